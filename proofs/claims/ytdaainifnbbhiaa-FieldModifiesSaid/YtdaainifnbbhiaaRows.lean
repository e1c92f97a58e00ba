/-
  No cell of these rows narrows 'for every input' (looked for: loops, veiled, ifaces, maps, wideKeys, modest, calm, conditions, laid).
  DERIVED. THE GIVEN ROWS OF THIS SEAT. 8 by the template 'for every input the law returns true; each argument reads behind the call as it read before'; 0 by the template 'total and deterministic' (their statements: YtdaainifnbbhiaaTotals.lean).
  GIVEN WITH THE SEED: the statements are not yours to turn. If you find one false, say at which input.
  Laid BY PROGRAM, IN A SANDBOX (cutbox-rows.mjs): the forced cells as the released guide's own fill.sh prints them over the translation fc0b226f188c1490… (all of the seat's roots in one cut). By AI agents, Wed Nov 11 2026. No macro, syntax, notation, axiom, sorry.
-/
import Derived.Test.YtdaainifnbbhiaaChecked
import GoSem.Claim
import GoSem.ClaimJoined
import GoSem.ClaimMapViews
import Derived.JoinedTies
import Derived.KernelRfl
namespace Go.Proofs.Ytdaainifnbbhiaa
/- THE CELL 'sum', in the pinned program and in every row, IS THE sha256 OF THE DUMP (.gsa) THAT YtdaainifnbbhiaaProg.lean LOADS. Nothing in Lean hashes anything: it is a label: what it is worth is what the hold of that sum in a sandbox is worth. -/
noncomputable def Try.pinned : Pinned := { name := "ytdaainifnbbhiaa", sum := "fc0b226f188c14908db61a4f42172772087c1cafe005e309158bc3469bf64dd6", checked := Try.checked }
namespace Rows
def none {H : Type} : Left H := { results := [], args := [] }

/-- 'vitrinelaw12.SpacePlays': WHATEVER THE INPUT: true; the input reads as it did. -/
def spacePlaysSpec : ChangeSpec := { name := "spacePlays", fn := fun _ => fun
  | [d1, d2, d3] => { results := [.lit (.bool true)], args := [d1, d2, d3] }
  | _ => none }
def spacePlaysRow : OpenClaim := { program := "ytdaainifnbbhiaa", sum := "fc0b226f188c14908db61a4f42172772087c1cafe005e309158bc3469bf64dd6", func := "vitrine/vitrinelaw12.SpacePlays", spec := "spacePlays", unfollowed := true, recurses := true, apart := false }
def SpacePlaysSaid : Prop := spacePlaysRow.holds Try.pinned (OpenSpec.ofChange spacePlaysSpec)

/-- ITS FALSE NEIGHBOUR: 'it returns false'. Refute it at one input. -/
def spacePlaysWrong : ChangeSpec := { name := "spacePlays", fn := fun _ => fun
  | [d1, d2, d3] => { results := [.lit (.bool false)], args := [d1, d2, d3] }
  | _ => none }
def SpacePlaysWrongFalsely : Prop := spacePlaysRow.holds Try.pinned (OpenSpec.ofChange spacePlaysWrong)

/-- 'vitrinelaw12.SpaceTold': WHATEVER THE INPUT: true; the input reads as it did. -/
def spaceToldSpec : ChangeSpec := { name := "spaceTold", fn := fun _ => fun
  | [d1, d2, d3] => { results := [.lit (.bool true)], args := [d1, d2, d3] }
  | _ => none }
def spaceToldRow : OpenClaim := { program := "ytdaainifnbbhiaa", sum := "fc0b226f188c14908db61a4f42172772087c1cafe005e309158bc3469bf64dd6", func := "vitrine/vitrinelaw12.SpaceTold", spec := "spaceTold", unfollowed := true, recurses := true, apart := false }
def SpaceToldSaid : Prop := spaceToldRow.holds Try.pinned (OpenSpec.ofChange spaceToldSpec)

/-- ITS FALSE NEIGHBOUR: 'it returns false'. Refute it at one input. -/
def spaceToldWrong : ChangeSpec := { name := "spaceTold", fn := fun _ => fun
  | [d1, d2, d3] => { results := [.lit (.bool false)], args := [d1, d2, d3] }
  | _ => none }
def SpaceToldWrongFalsely : Prop := spaceToldRow.holds Try.pinned (OpenSpec.ofChange spaceToldWrong)

/-- 'vitrinelaw12.SpaceRound': WHATEVER THE INPUT: true; the input reads as it did. -/
def spaceRoundSpec : ChangeSpec := { name := "spaceRound", fn := fun _ => fun
  | [d1, d2, d3, d4, d5] => { results := [.lit (.bool true)], args := [d1, d2, d3, d4, d5] }
  | _ => none }
def spaceRoundRow : OpenClaim := { program := "ytdaainifnbbhiaa", sum := "fc0b226f188c14908db61a4f42172772087c1cafe005e309158bc3469bf64dd6", func := "vitrine/vitrinelaw12.SpaceRound", spec := "spaceRound", apart := false }
def SpaceRoundSaid : Prop := spaceRoundRow.holds Try.pinned (OpenSpec.ofChange spaceRoundSpec)

/-- ITS FALSE NEIGHBOUR: 'it returns false'. Refute it at one input. -/
def spaceRoundWrong : ChangeSpec := { name := "spaceRound", fn := fun _ => fun
  | [d1, d2, d3, d4, d5] => { results := [.lit (.bool false)], args := [d1, d2, d3, d4, d5] }
  | _ => none }
def SpaceRoundWrongFalsely : Prop := spaceRoundRow.holds Try.pinned (OpenSpec.ofChange spaceRoundWrong)

/-- 'vitrinelaw13.FieldStarts': WHATEVER THE INPUT: true; the input reads as it did. -/
def fieldStartsSpec : ChangeSpec := { name := "fieldStarts", fn := fun _ => fun
  | [d1, d2, d3] => { results := [.lit (.bool true)], args := [d1, d2, d3] }
  | _ => none }
def fieldStartsRow : OpenClaim := { program := "ytdaainifnbbhiaa", sum := "fc0b226f188c14908db61a4f42172772087c1cafe005e309158bc3469bf64dd6", func := "vitrine/vitrinelaw13.FieldStarts", spec := "fieldStarts", unfollowed := true, recurses := true, apart := false }
def FieldStartsSaid : Prop := fieldStartsRow.holds Try.pinned (OpenSpec.ofChange fieldStartsSpec)

/-- ITS FALSE NEIGHBOUR: 'it returns false'. Refute it at one input. -/
def fieldStartsWrong : ChangeSpec := { name := "fieldStarts", fn := fun _ => fun
  | [d1, d2, d3] => { results := [.lit (.bool false)], args := [d1, d2, d3] }
  | _ => none }
def FieldStartsWrongFalsely : Prop := fieldStartsRow.holds Try.pinned (OpenSpec.ofChange fieldStartsWrong)

/-- 'vitrinelaw13.FieldPlaces': WHATEVER THE INPUT: true; the input reads as it did. -/
def fieldPlacesSpec : ChangeSpec := { name := "fieldPlaces", fn := fun _ => fun
  | [d1, d2, d3, d4] => { results := [.lit (.bool true)], args := [d1, d2, d3, d4] }
  | _ => none }
def fieldPlacesRow : OpenClaim := { program := "ytdaainifnbbhiaa", sum := "fc0b226f188c14908db61a4f42172772087c1cafe005e309158bc3469bf64dd6", func := "vitrine/vitrinelaw13.FieldPlaces", spec := "fieldPlaces", unfollowed := true, recurses := true, apart := false }
def FieldPlacesSaid : Prop := fieldPlacesRow.holds Try.pinned (OpenSpec.ofChange fieldPlacesSpec)

/-- ITS FALSE NEIGHBOUR: 'it returns false'. Refute it at one input. -/
def fieldPlacesWrong : ChangeSpec := { name := "fieldPlaces", fn := fun _ => fun
  | [d1, d2, d3, d4] => { results := [.lit (.bool false)], args := [d1, d2, d3, d4] }
  | _ => none }
def FieldPlacesWrongFalsely : Prop := fieldPlacesRow.holds Try.pinned (OpenSpec.ofChange fieldPlacesWrong)

/-- 'vitrinelaw13.FieldNexts': WHATEVER THE INPUT: true; the input reads as it did. -/
def fieldNextsSpec : ChangeSpec := { name := "fieldNexts", fn := fun _ => fun
  | [d1, d2, d3] => { results := [.lit (.bool true)], args := [d1, d2, d3] }
  | _ => none }
def fieldNextsRow : OpenClaim := { program := "ytdaainifnbbhiaa", sum := "fc0b226f188c14908db61a4f42172772087c1cafe005e309158bc3469bf64dd6", func := "vitrine/vitrinelaw13.FieldNexts", spec := "fieldNexts", unfollowed := true, recurses := true, apart := false }
def FieldNextsSaid : Prop := fieldNextsRow.holds Try.pinned (OpenSpec.ofChange fieldNextsSpec)

/-- ITS FALSE NEIGHBOUR: 'it returns false'. Refute it at one input. -/
def fieldNextsWrong : ChangeSpec := { name := "fieldNexts", fn := fun _ => fun
  | [d1, d2, d3] => { results := [.lit (.bool false)], args := [d1, d2, d3] }
  | _ => none }
def FieldNextsWrongFalsely : Prop := fieldNextsRow.holds Try.pinned (OpenSpec.ofChange fieldNextsWrong)

/-- 'vitrinelaw13.FieldModifies': WHATEVER THE INPUT: true; the input reads as it did. -/
def fieldModifiesSpec : ChangeSpec := { name := "fieldModifies", fn := fun _ => fun
  | [d1, d2, d3] => { results := [.lit (.bool true)], args := [d1, d2, d3] }
  | _ => none }
def fieldModifiesRow : OpenClaim := { program := "ytdaainifnbbhiaa", sum := "fc0b226f188c14908db61a4f42172772087c1cafe005e309158bc3469bf64dd6", func := "vitrine/vitrinelaw13.FieldModifies", spec := "fieldModifies", unfollowed := true, recurses := true, apart := false }
def FieldModifiesSaid : Prop := fieldModifiesRow.holds Try.pinned (OpenSpec.ofChange fieldModifiesSpec)

/-- ITS FALSE NEIGHBOUR: 'it returns false'. Refute it at one input. -/
def fieldModifiesWrong : ChangeSpec := { name := "fieldModifies", fn := fun _ => fun
  | [d1, d2, d3] => { results := [.lit (.bool false)], args := [d1, d2, d3] }
  | _ => none }
def FieldModifiesWrongFalsely : Prop := fieldModifiesRow.holds Try.pinned (OpenSpec.ofChange fieldModifiesWrong)

/-- 'vitrinelaw13.FieldNil': WHATEVER THE INPUT: true; the input reads as it did. -/
def fieldNilSpec : ChangeSpec := { name := "fieldNil", fn := fun _ => fun
  | [d] => { results := [.lit (.bool true)], args := [d] }
  | _ => none }
def fieldNilRow : OpenClaim := { program := "ytdaainifnbbhiaa", sum := "fc0b226f188c14908db61a4f42172772087c1cafe005e309158bc3469bf64dd6", func := "vitrine/vitrinelaw13.FieldNil", spec := "fieldNil", unfollowed := true, recurses := true, apart := false }
def FieldNilSaid : Prop := fieldNilRow.holds Try.pinned (OpenSpec.ofChange fieldNilSpec)

/-- ITS FALSE NEIGHBOUR: 'it returns false'. Refute it at one input. -/
def fieldNilWrong : ChangeSpec := { name := "fieldNil", fn := fun _ => fun
  | [d] => { results := [.lit (.bool false)], args := [d] }
  | _ => none }
def FieldNilWrongFalsely : Prop := fieldNilRow.holds Try.pinned (OpenSpec.ofChange fieldNilWrong)

/- THE SECOND FORM. 'bulk': how many values and letters a reading holds, each counted each time it is reached (what is shared counts as often as it is met; a slice's spare places count too). A statement '..UptoSaid' is the law's where the arguments, and the package variables that the reading takes, are together of bulk at most 1048576: NARROWER than '..Said'. Prove '..Said' where nothing that the law and all that it calls make is longer than what came in: it says more and counts as full. Else prove '..UptoSaid'. A law counts once. -/
mutual
def uptoBulk {H : Type} : DataW H → Nat
  | .lit (.string bytes) => bytes.length + 1
  | .lit _ => 1
  | .nil => 1
  | .ptr d => uptoBulk d + 1
  | .slice elems spare => uptoBulkAll elems + uptoBulkAll spare + 1
  | .agg parts => uptoBulkAll parts + 1
  | .iface _ d => uptoBulk d + 1
  | .map entries => uptoBulkEntries entries + 1
  | .held _ => 1
def uptoBulkAll {H : Type} : List (DataW H) → Nat
  | [] => 0
  | d :: r => uptoBulk d + uptoBulkAll r
def uptoBulkEntries {H : Type} : List (Lit × DataW H) → Nat
  | [] => 0
  | x :: r => uptoBulkEntry x + uptoBulkEntries r
def uptoBulkEntry {H : Type} : Lit × DataW H → Nat
  | (.string bytes, d) => bytes.length + uptoBulk d + 1
  | (_, d) => uptoBulk d + 1
 end
def uptoSmall : (H : Type) → List (DataW H) → Bool := fun _ ds => decide (uptoBulkAll ds ≤ 1048576)
def OpenSpec.upto (s : _root_.Go.ChangeSpec) : _root_.Go.OpenSpec := { _root_.Go.OpenSpec.ofChange s with cond := some uptoSmall }

/-- 'vitrinelaw12.SpacePlays', WHERE WHAT IT READS IS OF BULK AT MOST 1048576: true; the input reads as it did. -/
def spacePlaysUptoRow : OpenClaim := { program := "ytdaainifnbbhiaa", sum := "fc0b226f188c14908db61a4f42172772087c1cafe005e309158bc3469bf64dd6", func := "vitrine/vitrinelaw12.SpacePlays", spec := "spacePlays", unfollowed := true, recurses := true, apart := false, narrowed := true }
def SpacePlaysUptoSaid : Prop := spacePlaysUptoRow.holds Try.pinned (OpenSpec.upto spacePlaysSpec)

/-- 'vitrinelaw12.SpaceTold', WHERE WHAT IT READS IS OF BULK AT MOST 1048576: true; the input reads as it did. -/
def spaceToldUptoRow : OpenClaim := { program := "ytdaainifnbbhiaa", sum := "fc0b226f188c14908db61a4f42172772087c1cafe005e309158bc3469bf64dd6", func := "vitrine/vitrinelaw12.SpaceTold", spec := "spaceTold", unfollowed := true, recurses := true, apart := false, narrowed := true }
def SpaceToldUptoSaid : Prop := spaceToldUptoRow.holds Try.pinned (OpenSpec.upto spaceToldSpec)

/-- 'vitrinelaw12.SpaceRound', WHERE WHAT IT READS IS OF BULK AT MOST 1048576: true; the input reads as it did. -/
def spaceRoundUptoRow : OpenClaim := { program := "ytdaainifnbbhiaa", sum := "fc0b226f188c14908db61a4f42172772087c1cafe005e309158bc3469bf64dd6", func := "vitrine/vitrinelaw12.SpaceRound", spec := "spaceRound", apart := false, narrowed := true }
def SpaceRoundUptoSaid : Prop := spaceRoundUptoRow.holds Try.pinned (OpenSpec.upto spaceRoundSpec)

/-- 'vitrinelaw13.FieldStarts', WHERE WHAT IT READS IS OF BULK AT MOST 1048576: true; the input reads as it did. -/
def fieldStartsUptoRow : OpenClaim := { program := "ytdaainifnbbhiaa", sum := "fc0b226f188c14908db61a4f42172772087c1cafe005e309158bc3469bf64dd6", func := "vitrine/vitrinelaw13.FieldStarts", spec := "fieldStarts", unfollowed := true, recurses := true, apart := false, narrowed := true }
def FieldStartsUptoSaid : Prop := fieldStartsUptoRow.holds Try.pinned (OpenSpec.upto fieldStartsSpec)

/-- 'vitrinelaw13.FieldPlaces', WHERE WHAT IT READS IS OF BULK AT MOST 1048576: true; the input reads as it did. -/
def fieldPlacesUptoRow : OpenClaim := { program := "ytdaainifnbbhiaa", sum := "fc0b226f188c14908db61a4f42172772087c1cafe005e309158bc3469bf64dd6", func := "vitrine/vitrinelaw13.FieldPlaces", spec := "fieldPlaces", unfollowed := true, recurses := true, apart := false, narrowed := true }
def FieldPlacesUptoSaid : Prop := fieldPlacesUptoRow.holds Try.pinned (OpenSpec.upto fieldPlacesSpec)

/-- 'vitrinelaw13.FieldNexts', WHERE WHAT IT READS IS OF BULK AT MOST 1048576: true; the input reads as it did. -/
def fieldNextsUptoRow : OpenClaim := { program := "ytdaainifnbbhiaa", sum := "fc0b226f188c14908db61a4f42172772087c1cafe005e309158bc3469bf64dd6", func := "vitrine/vitrinelaw13.FieldNexts", spec := "fieldNexts", unfollowed := true, recurses := true, apart := false, narrowed := true }
def FieldNextsUptoSaid : Prop := fieldNextsUptoRow.holds Try.pinned (OpenSpec.upto fieldNextsSpec)

/-- 'vitrinelaw13.FieldModifies', WHERE WHAT IT READS IS OF BULK AT MOST 1048576: true; the input reads as it did. -/
def fieldModifiesUptoRow : OpenClaim := { program := "ytdaainifnbbhiaa", sum := "fc0b226f188c14908db61a4f42172772087c1cafe005e309158bc3469bf64dd6", func := "vitrine/vitrinelaw13.FieldModifies", spec := "fieldModifies", unfollowed := true, recurses := true, apart := false, narrowed := true }
def FieldModifiesUptoSaid : Prop := fieldModifiesUptoRow.holds Try.pinned (OpenSpec.upto fieldModifiesSpec)

/-- 'vitrinelaw13.FieldNil', WHERE WHAT IT READS IS OF BULK AT MOST 1048576: true; the input reads as it did. -/
def fieldNilUptoRow : OpenClaim := { program := "ytdaainifnbbhiaa", sum := "fc0b226f188c14908db61a4f42172772087c1cafe005e309158bc3469bf64dd6", func := "vitrine/vitrinelaw13.FieldNil", spec := "fieldNil", unfollowed := true, recurses := true, apart := false, narrowed := true }
def FieldNilUptoSaid : Prop := fieldNilUptoRow.holds Try.pinned (OpenSpec.upto fieldNilSpec)

end Rows
end Go.Proofs.Ytdaainifnbbhiaa
