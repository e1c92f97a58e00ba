/-
  NARROWER THAN 'FOR EVERY INPUT', by the rows' own cells (each row's printed sentence says how): SfieldReads: laid · SfieldActs: laid · SfieldRecords: laid · SfieldBytes: laid · SfieldRest: laid · QueryReads: laid · QueryParses: laid.
  DERIVED. THE GIVEN ROWS OF THIS SEAT. 7 by the template 'for every input the law returns true; each argument reads behind the call as it read before'; 0 by the template 'total and deterministic' (their statements: YtdpgmepblmlaaaaDoorTotals.lean).
  GIVEN WITH THE SEED: the statements are not yours to turn. If you find one false, say at which input.
  Laid BY PROGRAM, IN A SANDBOX (cutbox-rows.mjs): the forced cells as the released guide's own fill.sh prints them over the translation 1f0b7ada077a5ab6… (all of the seat's roots in one cut). By AI agents, Wed Nov 11 2026. No macro, syntax, notation, axiom, sorry.
-/
import Derived.Test.YtdpgmepblmlaaaaDoorChecked
import GoSem.Claim
import GoSem.ClaimJoined
import GoSem.ClaimMapViews
import Derived.JoinedTies
import Derived.KernelRfl
namespace Go.Proofs.YtdpgmepblmlaaaaDoor
/- THE CELL 'sum', in the pinned program and in every row, IS THE sha256 OF THE DUMP (.gsa) THAT YtdpgmepblmlaaaaDoorProg.lean LOADS. Nothing in Lean hashes anything: it is a label: what it is worth is what the hold of that sum in a sandbox is worth. -/
noncomputable def Tryd.pinned : Pinned := { name := "ytdpgmepblmlaaaadoor", sum := "1f0b7ada077a5ab6a22d444ce3cd0fb6abd9aa668466e6e15592469d731978c0", checked := Tryd.checked }
namespace Rows
def none {H : Type} : Left H := { results := [], args := [] }

/- WHAT THE LISTED PACKAGE-LEVEL VARIABLES READ AS WHEN THE CALL BEGINS. Each datum BY PROGRAM (the guide's laid-datum.mjs) off the statement by which the dump's own 'gosem.cut.vars' lays the variable. In a bare row this is a premise. The card (YtdpgmepblmlaaaaDoorCards.lean) ties it to the program's text. -/
def laid_vitrine_write_codings {H : Type} : DataW H := .agg [.agg [.lit (.string [78, 111, 116, 104, 105, 110, 103]), .lit (.int .u8 3), .lit (.int .u8 3)], .agg [.lit (.string [87, 114, 105, 116, 101]), .lit (.int .u8 1), .lit (.int .u8 241)], .agg [.lit (.string [69, 114, 97, 115, 101, 87, 114, 105, 116, 101]), .lit (.int .u8 5), .lit (.int .u8 245)], .agg [.lit (.string [69, 114, 97, 115, 101, 65, 108, 116, 101, 114, 110, 97, 116, 101]), .lit (.int .u8 13), .lit (.int .u8 126)], .agg [.lit (.string [69, 114, 97, 115, 101, 85, 110, 112, 114, 111, 116, 101, 99, 116, 101, 100]), .lit (.int .u8 15), .lit (.int .u8 111)], .agg [.lit (.string [82, 101, 97, 100, 66, 117, 102, 102, 101, 114]), .lit (.int .u8 2), .lit (.int .u8 242)], .agg [.lit (.string [82, 101, 97, 100, 77, 111, 100, 105, 102, 105, 101, 100]), .lit (.int .u8 6), .lit (.int .u8 246)], .agg [.lit (.string [82, 101, 97, 100, 65, 108, 108]), .lit (.int .u8 14), .lit (.int .u8 110)], .agg [.lit (.string [83, 116, 114, 117, 99, 116, 117, 114, 101, 100]), .lit (.int .u8 17), .lit (.int .u8 243)]]
def laid_vitrine_sfield_names {H : Type} : DataW H := .agg [.lit (.string []), .lit (.string [81, 117, 101, 114, 121]), .lit (.string [81, 117, 101, 114, 121, 76, 105, 115, 116]), .lit (.string [82, 101, 97, 100]), .lit (.string [69, 114, 97, 115, 101]), .lit (.string [77, 111, 100, 101]), .lit (.string [67, 114, 101, 97, 116, 101]), .lit (.string [68, 101, 115, 116, 114, 111, 121]), .lit (.string [65, 99, 116, 105, 118, 97, 116, 101]), .lit (.string [79, 117, 116, 98, 111, 117, 110, 100])]
def laid_vitrine_page_numbers {H : Type} : DataW H := .agg [.lit (.int .i64 37), .lit (.int .i64 273), .lit (.int .i64 297), .lit (.int .i64 500), .lit (.int .i64 1047), .lit (.int .i64 1140)]

/-- 'vitrinelaw21.SfieldReads': WHATEVER THE INPUT: true; the input reads as it did. -/
def sfieldReadsSpec : ChangeSpec := { name := "sfieldReads", fn := fun _ => fun
  | [d1, d2] => { results := [.lit (.bool true)], args := [d1, d2] }
  | _ => none }
def sfieldReadsRow : OpenClaim := { program := "ytdpgmepblmlaaaadoor", sum := "1f0b7ada077a5ab6a22d444ce3cd0fb6abd9aa668466e6e15592469d731978c0", func := "vitrine/vitrinelaw21.SfieldReads", spec := "sfieldReads", unfollowed := true, recurses := true, named := ["vitrine/write.codings"], apart := false, laid := [("vitrine/write.codings", laid_vitrine_write_codings)] }
def SfieldReadsSaid : Prop := sfieldReadsRow.holds Tryd.pinned (OpenSpec.ofChange sfieldReadsSpec)

/-- ITS FALSE NEIGHBOUR: 'it returns false'. Refute it at one input. -/
def sfieldReadsWrong : ChangeSpec := { name := "sfieldReads", fn := fun _ => fun
  | [d1, d2] => { results := [.lit (.bool false)], args := [d1, d2] }
  | _ => none }
def SfieldReadsWrongFalsely : Prop := sfieldReadsRow.holds Tryd.pinned (OpenSpec.ofChange sfieldReadsWrong)

/-- 'vitrinelaw21.SfieldActs': WHATEVER THE INPUT: true; the input reads as it did. -/
def sfieldActsSpec : ChangeSpec := { name := "sfieldActs", fn := fun _ => fun
  | [d] => { results := [.lit (.bool true)], args := [d] }
  | _ => none }
def sfieldActsRow : OpenClaim := { program := "ytdpgmepblmlaaaadoor", sum := "1f0b7ada077a5ab6a22d444ce3cd0fb6abd9aa668466e6e15592469d731978c0", func := "vitrine/vitrinelaw21.SfieldActs", spec := "sfieldActs", unfollowed := true, recurses := true, named := ["vitrine/write.codings", "vitrine/sfield.names"], apart := false, laid := [("vitrine/write.codings", laid_vitrine_write_codings), ("vitrine/sfield.names", laid_vitrine_sfield_names)] }
def SfieldActsSaid : Prop := sfieldActsRow.holds Tryd.pinned (OpenSpec.ofChange sfieldActsSpec)

/-- ITS FALSE NEIGHBOUR: 'it returns false'. Refute it at one input. -/
def sfieldActsWrong : ChangeSpec := { name := "sfieldActs", fn := fun _ => fun
  | [d] => { results := [.lit (.bool false)], args := [d] }
  | _ => none }
def SfieldActsWrongFalsely : Prop := sfieldActsRow.holds Tryd.pinned (OpenSpec.ofChange sfieldActsWrong)

/-- 'vitrinelaw21.SfieldRecords': WHATEVER THE INPUT: true; the input reads as it did. -/
def sfieldRecordsSpec : ChangeSpec := { name := "sfieldRecords", fn := fun _ => fun
  | [d] => { results := [.lit (.bool true)], args := [d] }
  | _ => none }
def sfieldRecordsRow : OpenClaim := { program := "ytdpgmepblmlaaaadoor", sum := "1f0b7ada077a5ab6a22d444ce3cd0fb6abd9aa668466e6e15592469d731978c0", func := "vitrine/vitrinelaw21.SfieldRecords", spec := "sfieldRecords", unfollowed := true, recurses := true, named := ["vitrine/write.codings"], apart := false, laid := [("vitrine/write.codings", laid_vitrine_write_codings)] }
def SfieldRecordsSaid : Prop := sfieldRecordsRow.holds Tryd.pinned (OpenSpec.ofChange sfieldRecordsSpec)

/-- ITS FALSE NEIGHBOUR: 'it returns false'. Refute it at one input. -/
def sfieldRecordsWrong : ChangeSpec := { name := "sfieldRecords", fn := fun _ => fun
  | [d] => { results := [.lit (.bool false)], args := [d] }
  | _ => none }
def SfieldRecordsWrongFalsely : Prop := sfieldRecordsRow.holds Tryd.pinned (OpenSpec.ofChange sfieldRecordsWrong)

/-- 'vitrinelaw21.SfieldBytes': WHATEVER THE INPUT: true; the input reads as it did. -/
def sfieldBytesSpec : ChangeSpec := { name := "sfieldBytes", fn := fun _ => fun
  | [d1, d2, d3] => { results := [.lit (.bool true)], args := [d1, d2, d3] }
  | _ => none }
def sfieldBytesRow : OpenClaim := { program := "ytdpgmepblmlaaaadoor", sum := "1f0b7ada077a5ab6a22d444ce3cd0fb6abd9aa668466e6e15592469d731978c0", func := "vitrine/vitrinelaw21.SfieldBytes", spec := "sfieldBytes", unfollowed := true, recurses := true, named := ["vitrine/write.codings"], apart := false, laid := [("vitrine/write.codings", laid_vitrine_write_codings)] }
def SfieldBytesSaid : Prop := sfieldBytesRow.holds Tryd.pinned (OpenSpec.ofChange sfieldBytesSpec)

/-- ITS FALSE NEIGHBOUR: 'it returns false'. Refute it at one input. -/
def sfieldBytesWrong : ChangeSpec := { name := "sfieldBytes", fn := fun _ => fun
  | [d1, d2, d3] => { results := [.lit (.bool false)], args := [d1, d2, d3] }
  | _ => none }
def SfieldBytesWrongFalsely : Prop := sfieldBytesRow.holds Tryd.pinned (OpenSpec.ofChange sfieldBytesWrong)

/-- 'vitrinelaw21.SfieldRest': WHATEVER THE INPUT: true; the input reads as it did. -/
def sfieldRestSpec : ChangeSpec := { name := "sfieldRest", fn := fun _ => fun
  | [d1, d2, d3] => { results := [.lit (.bool true)], args := [d1, d2, d3] }
  | _ => none }
def sfieldRestRow : OpenClaim := { program := "ytdpgmepblmlaaaadoor", sum := "1f0b7ada077a5ab6a22d444ce3cd0fb6abd9aa668466e6e15592469d731978c0", func := "vitrine/vitrinelaw21.SfieldRest", spec := "sfieldRest", unfollowed := true, recurses := true, named := ["vitrine/write.codings"], apart := false, laid := [("vitrine/write.codings", laid_vitrine_write_codings)] }
def SfieldRestSaid : Prop := sfieldRestRow.holds Tryd.pinned (OpenSpec.ofChange sfieldRestSpec)

/-- ITS FALSE NEIGHBOUR: 'it returns false'. Refute it at one input. -/
def sfieldRestWrong : ChangeSpec := { name := "sfieldRest", fn := fun _ => fun
  | [d1, d2, d3] => { results := [.lit (.bool false)], args := [d1, d2, d3] }
  | _ => none }
def SfieldRestWrongFalsely : Prop := sfieldRestRow.holds Tryd.pinned (OpenSpec.ofChange sfieldRestWrong)

/-- 'vitrinelaw22.QueryReads': WHATEVER THE INPUT: true; the input reads as it did. -/
def queryReadsSpec : ChangeSpec := { name := "queryReads", fn := fun _ => fun
  | [d1, d2, d3] => { results := [.lit (.bool true)], args := [d1, d2, d3] }
  | _ => none }
def queryReadsRow : OpenClaim := { program := "ytdpgmepblmlaaaadoor", sum := "1f0b7ada077a5ab6a22d444ce3cd0fb6abd9aa668466e6e15592469d731978c0", func := "vitrine/vitrinelaw22.QueryReads", spec := "queryReads", inPlace := ["internal/bytealg.IndexByte"], unfollowed := true, recurses := true, named := ["vitrine/page.numbers"], apart := false, laid := [("vitrine/page.numbers", laid_vitrine_page_numbers)] }
def QueryReadsSaid : Prop := queryReadsRow.holds Tryd.pinned (OpenSpec.ofChange queryReadsSpec)

/-- ITS FALSE NEIGHBOUR: 'it returns false'. Refute it at one input. -/
def queryReadsWrong : ChangeSpec := { name := "queryReads", fn := fun _ => fun
  | [d1, d2, d3] => { results := [.lit (.bool false)], args := [d1, d2, d3] }
  | _ => none }
def QueryReadsWrongFalsely : Prop := queryReadsRow.holds Tryd.pinned (OpenSpec.ofChange queryReadsWrong)

/-- 'vitrinelaw22.QueryParses': WHATEVER THE INPUT: true; the input reads as it did. -/
def queryParsesSpec : ChangeSpec := { name := "queryParses", fn := fun _ => fun
  | [d1, d2] => { results := [.lit (.bool true)], args := [d1, d2] }
  | _ => none }
def queryParsesRow : OpenClaim := { program := "ytdpgmepblmlaaaadoor", sum := "1f0b7ada077a5ab6a22d444ce3cd0fb6abd9aa668466e6e15592469d731978c0", func := "vitrine/vitrinelaw22.QueryParses", spec := "queryParses", inPlace := ["internal/bytealg.IndexByte"], unfollowed := true, recurses := true, named := ["vitrine/page.numbers"], apart := false, laid := [("vitrine/page.numbers", laid_vitrine_page_numbers)] }
def QueryParsesSaid : Prop := queryParsesRow.holds Tryd.pinned (OpenSpec.ofChange queryParsesSpec)

/-- ITS FALSE NEIGHBOUR: 'it returns false'. Refute it at one input. -/
def queryParsesWrong : ChangeSpec := { name := "queryParses", fn := fun _ => fun
  | [d1, d2] => { results := [.lit (.bool false)], args := [d1, d2] }
  | _ => none }
def QueryParsesWrongFalsely : Prop := queryParsesRow.holds Tryd.pinned (OpenSpec.ofChange queryParsesWrong)

/- THE SECOND FORM. 'bulk': how many values and letters a reading holds, each counted each time it is reached (what is shared counts as often as it is met; a slice's spare places count too). A statement '..UptoSaid' is the law's where the arguments, and the package variables that the reading takes, are together of bulk at most 1048576: NARROWER than '..Said'. Prove '..Said' where nothing that the law and all that it calls make is longer than what came in: it says more and counts as full. Else prove '..UptoSaid'. A law counts once. -/
mutual
def uptoBulk {H : Type} : DataW H → Nat
  | .lit (.string bytes) => bytes.length + 1
  | .lit _ => 1
  | .nil => 1
  | .ptr d => uptoBulk d + 1
  | .slice elems spare => uptoBulkAll elems + uptoBulkAll spare + 1
  | .agg parts => uptoBulkAll parts + 1
  | .iface _ d => uptoBulk d + 1
  | .map entries => uptoBulkEntries entries + 1
  | .held _ => 1
def uptoBulkAll {H : Type} : List (DataW H) → Nat
  | [] => 0
  | d :: r => uptoBulk d + uptoBulkAll r
def uptoBulkEntries {H : Type} : List (Lit × DataW H) → Nat
  | [] => 0
  | x :: r => uptoBulkEntry x + uptoBulkEntries r
def uptoBulkEntry {H : Type} : Lit × DataW H → Nat
  | (.string bytes, d) => bytes.length + uptoBulk d + 1
  | (_, d) => uptoBulk d + 1
 end
def uptoSmall : (H : Type) → List (DataW H) → Bool := fun _ ds => decide (uptoBulkAll ds ≤ 1048576)
def OpenSpec.upto (s : _root_.Go.ChangeSpec) : _root_.Go.OpenSpec := { _root_.Go.OpenSpec.ofChange s with cond := some uptoSmall }

/-- 'vitrinelaw21.SfieldReads', WHERE WHAT IT READS IS OF BULK AT MOST 1048576: true; the input reads as it did. -/
def sfieldReadsUptoRow : OpenClaim := { program := "ytdpgmepblmlaaaadoor", sum := "1f0b7ada077a5ab6a22d444ce3cd0fb6abd9aa668466e6e15592469d731978c0", func := "vitrine/vitrinelaw21.SfieldReads", spec := "sfieldReads", unfollowed := true, recurses := true, named := ["vitrine/write.codings"], apart := false, laid := [("vitrine/write.codings", laid_vitrine_write_codings)], narrowed := true }
def SfieldReadsUptoSaid : Prop := sfieldReadsUptoRow.holds Tryd.pinned (OpenSpec.upto sfieldReadsSpec)

/-- 'vitrinelaw21.SfieldActs', WHERE WHAT IT READS IS OF BULK AT MOST 1048576: true; the input reads as it did. -/
def sfieldActsUptoRow : OpenClaim := { program := "ytdpgmepblmlaaaadoor", sum := "1f0b7ada077a5ab6a22d444ce3cd0fb6abd9aa668466e6e15592469d731978c0", func := "vitrine/vitrinelaw21.SfieldActs", spec := "sfieldActs", unfollowed := true, recurses := true, named := ["vitrine/write.codings", "vitrine/sfield.names"], apart := false, laid := [("vitrine/write.codings", laid_vitrine_write_codings), ("vitrine/sfield.names", laid_vitrine_sfield_names)], narrowed := true }
def SfieldActsUptoSaid : Prop := sfieldActsUptoRow.holds Tryd.pinned (OpenSpec.upto sfieldActsSpec)

/-- 'vitrinelaw21.SfieldRecords', WHERE WHAT IT READS IS OF BULK AT MOST 1048576: true; the input reads as it did. -/
def sfieldRecordsUptoRow : OpenClaim := { program := "ytdpgmepblmlaaaadoor", sum := "1f0b7ada077a5ab6a22d444ce3cd0fb6abd9aa668466e6e15592469d731978c0", func := "vitrine/vitrinelaw21.SfieldRecords", spec := "sfieldRecords", unfollowed := true, recurses := true, named := ["vitrine/write.codings"], apart := false, laid := [("vitrine/write.codings", laid_vitrine_write_codings)], narrowed := true }
def SfieldRecordsUptoSaid : Prop := sfieldRecordsUptoRow.holds Tryd.pinned (OpenSpec.upto sfieldRecordsSpec)

/-- 'vitrinelaw21.SfieldBytes', WHERE WHAT IT READS IS OF BULK AT MOST 1048576: true; the input reads as it did. -/
def sfieldBytesUptoRow : OpenClaim := { program := "ytdpgmepblmlaaaadoor", sum := "1f0b7ada077a5ab6a22d444ce3cd0fb6abd9aa668466e6e15592469d731978c0", func := "vitrine/vitrinelaw21.SfieldBytes", spec := "sfieldBytes", unfollowed := true, recurses := true, named := ["vitrine/write.codings"], apart := false, laid := [("vitrine/write.codings", laid_vitrine_write_codings)], narrowed := true }
def SfieldBytesUptoSaid : Prop := sfieldBytesUptoRow.holds Tryd.pinned (OpenSpec.upto sfieldBytesSpec)

/-- 'vitrinelaw21.SfieldRest', WHERE WHAT IT READS IS OF BULK AT MOST 1048576: true; the input reads as it did. -/
def sfieldRestUptoRow : OpenClaim := { program := "ytdpgmepblmlaaaadoor", sum := "1f0b7ada077a5ab6a22d444ce3cd0fb6abd9aa668466e6e15592469d731978c0", func := "vitrine/vitrinelaw21.SfieldRest", spec := "sfieldRest", unfollowed := true, recurses := true, named := ["vitrine/write.codings"], apart := false, laid := [("vitrine/write.codings", laid_vitrine_write_codings)], narrowed := true }
def SfieldRestUptoSaid : Prop := sfieldRestUptoRow.holds Tryd.pinned (OpenSpec.upto sfieldRestSpec)

/-- 'vitrinelaw22.QueryReads', WHERE WHAT IT READS IS OF BULK AT MOST 1048576: true; the input reads as it did. -/
def queryReadsUptoRow : OpenClaim := { program := "ytdpgmepblmlaaaadoor", sum := "1f0b7ada077a5ab6a22d444ce3cd0fb6abd9aa668466e6e15592469d731978c0", func := "vitrine/vitrinelaw22.QueryReads", spec := "queryReads", inPlace := ["internal/bytealg.IndexByte"], unfollowed := true, recurses := true, named := ["vitrine/page.numbers"], apart := false, laid := [("vitrine/page.numbers", laid_vitrine_page_numbers)], narrowed := true }
def QueryReadsUptoSaid : Prop := queryReadsUptoRow.holds Tryd.pinned (OpenSpec.upto queryReadsSpec)

/-- 'vitrinelaw22.QueryParses', WHERE WHAT IT READS IS OF BULK AT MOST 1048576: true; the input reads as it did. -/
def queryParsesUptoRow : OpenClaim := { program := "ytdpgmepblmlaaaadoor", sum := "1f0b7ada077a5ab6a22d444ce3cd0fb6abd9aa668466e6e15592469d731978c0", func := "vitrine/vitrinelaw22.QueryParses", spec := "queryParses", inPlace := ["internal/bytealg.IndexByte"], unfollowed := true, recurses := true, named := ["vitrine/page.numbers"], apart := false, laid := [("vitrine/page.numbers", laid_vitrine_page_numbers)], narrowed := true }
def QueryParsesUptoSaid : Prop := queryParsesUptoRow.holds Tryd.pinned (OpenSpec.upto queryParsesSpec)

end Rows
end Go.Proofs.YtdpgmepblmlaaaaDoor
