/-
  NARROWER THAN 'FOR EVERY INPUT', by the rows' own cells (each row's printed sentence says how): PageSigns: laid · PageCodes: laid · PageTexts: laid · PageReads: laid · PageUppers: laid · PageEscapes: laid · PageNumbers: laid · PageCommon: laid · ClassOf: laid · ClassUses: laid · ClassCounts: laid · ClassAlone: laid.
  DERIVED. THE GIVEN ROWS OF THIS SEAT. 12 by the template 'for every input the law returns true; each argument reads behind the call as it read before'; 0 by the template 'total and deterministic' (their statements: YtadoiplfglaonaaDoorTotals.lean).
  GIVEN WITH THE SEED: the statements are not yours to turn. If you find one false, say at which input.
  Laid BY PROGRAM, IN A SANDBOX (cutbox-rows.mjs): the forced cells as the released guide's own fill.sh prints them over the translation cbf503bdacdd2440… (all of the seat's roots in one cut). By AI agents, Wed Nov 11 2026. No macro, syntax, notation, axiom, sorry.
-/
import Derived.Test.YtadoiplfglaonaaDoorChecked
import GoSem.PinnedTables
import GoSem.Claim
import GoSem.ClaimJoined
import GoSem.ClaimMapViews
import Derived.JoinedTies
import Derived.KernelRfl
namespace Go.Proofs.YtadoiplfglaonaaDoor
/- THE CELL 'sum', in the pinned program and in every row, IS THE sha256 OF THE DUMP (.gsa) THAT YtadoiplfglaonaaDoorProg.lean LOADS. Nothing in Lean hashes anything: it is a label: what it is worth is what the hold of that sum in a sandbox is worth. -/
noncomputable def Tryd.pinned : Pinned := { name := "ytadoiplfglaonaadoor", sum := "cbf503bdacdd2440e544f9bc8501ee28f5de54163b2f63e34612788f738339e1", checked := Tryd.checked }
namespace Rows
def none {H : Type} : Left H := { results := [], args := [] }

/- WHAT THE LISTED PACKAGE-LEVEL VARIABLES READ AS WHEN THE CALL BEGINS. Each datum BY PROGRAM (the guide's laid-datum.mjs) off the statement by which the dump's own 'gosem.cut.vars' lays the variable. In a bare row this is a premise. The card (YtadoiplfglaonaaDoorCards.lean) ties it to the program's text. -/
def laid_vitrine_page_numbers {H : Type} : DataW H := .agg [.lit (.int .i64 37), .lit (.int .i64 273), .lit (.int .i64 297), .lit (.int .i64 500), .lit (.int .i64 1047), .lit (.int .i64 1140)]
def laid_unicode_utf8_acceptRanges {H : Type} : DataW H := .agg [.agg [.lit (.int .u8 128), .lit (.int .u8 191)], .agg [.lit (.int .u8 160), .lit (.int .u8 191)], .agg [.lit (.int .u8 128), .lit (.int .u8 159)], .agg [.lit (.int .u8 144), .lit (.int .u8 191)], .agg [.lit (.int .u8 128), .lit (.int .u8 143)], .agg [.lit (.int .u8 0), .lit (.int .u8 0)], .agg [.lit (.int .u8 0), .lit (.int .u8 0)], .agg [.lit (.int .u8 0), .lit (.int .u8 0)], .agg [.lit (.int .u8 0), .lit (.int .u8 0)], .agg [.lit (.int .u8 0), .lit (.int .u8 0)], .agg [.lit (.int .u8 0), .lit (.int .u8 0)], .agg [.lit (.int .u8 0), .lit (.int .u8 0)], .agg [.lit (.int .u8 0), .lit (.int .u8 0)], .agg [.lit (.int .u8 0), .lit (.int .u8 0)], .agg [.lit (.int .u8 0), .lit (.int .u8 0)], .agg [.lit (.int .u8 0), .lit (.int .u8 0)]]
/-- One of Go's own tables, pinned by name: the form's constant. -/
def laid_unicode_utf8_first : DataW Unit := Go.Pinned.utf8First
def laid_vitrine_page_escapes {H : Type} : DataW H := .agg [.agg [.lit (.int .u8 112), .lit (.int .i32 8743)], .agg [.lit (.int .u8 133), .lit (.int .i32 9474)], .agg [.lit (.int .u8 138), .lit (.int .i32 8593)], .agg [.lit (.int .u8 139), .lit (.int .i32 8595)], .agg [.lit (.int .u8 140), .lit (.int .i32 8804)], .agg [.lit (.int .u8 143), .lit (.int .i32 8594)], .agg [.lit (.int .u8 159), .lit (.int .i32 8592)], .agg [.lit (.int .u8 162), .lit (.int .i32 9472)], .agg [.lit (.int .u8 174), .lit (.int .i32 8805)], .agg [.lit (.int .u8 190), .lit (.int .i32 8800)], .agg [.lit (.int .u8 196), .lit (.int .i32 9492)], .agg [.lit (.int .u8 197), .lit (.int .i32 9484)], .agg [.lit (.int .u8 198), .lit (.int .i32 9500)], .agg [.lit (.int .u8 199), .lit (.int .i32 9524)], .agg [.lit (.int .u8 211), .lit (.int .i32 9532)], .agg [.lit (.int .u8 212), .lit (.int .i32 9496)], .agg [.lit (.int .u8 213), .lit (.int .i32 9488)], .agg [.lit (.int .u8 214), .lit (.int .i32 9508)], .agg [.lit (.int .u8 215), .lit (.int .i32 9516)]]
def laid_vitrine_class_names {H : Type} : DataW H := .agg [.lit (.string [110, 117, 108, 108]), .lit (.string [102, 111, 114, 109, 97, 116]), .lit (.string [111, 110, 101, 115]), .lit (.string [99, 111, 110, 116, 114, 111, 108]), .lit (.string [98, 108, 97, 110, 107]), .lit (.string [100, 105, 103, 105, 116]), .lit (.string [108, 101, 116, 116, 101, 114]), .lit (.string [109, 97, 114, 107])]

/-- 'vitrinelaw01.PageSigns': WHATEVER THE INPUT: true; the input reads as it did. -/
def pageSignsSpec : ChangeSpec := { name := "pageSigns", fn := fun _ => fun
  | [d] => { results := [.lit (.bool true)], args := [d] }
  | _ => none }
def pageSignsRow : OpenClaim := { program := "ytadoiplfglaonaadoor", sum := "cbf503bdacdd2440e544f9bc8501ee28f5de54163b2f63e34612788f738339e1", func := "vitrine/vitrinelaw01.PageSigns", spec := "pageSigns", inPlace := ["sync/atomic.LoadUint32", "(*internal/sync.Mutex).Lock", "internal/race.Disable", "sync/atomic.CompareAndSwapInt32", "internal/race.Enable", "internal/race.Acquire", "(*internal/sync.Mutex).lockSlow", "internal/sync.runtime_canSpin", "internal/sync.runtime_doSpin", "internal/sync.throw", "internal/sync.runtime_nanotime", "internal/sync.runtime_SemacquireMutex", "sync/atomic.AddInt32", "(*internal/sync.Mutex).Unlock", "internal/race.ReleaseMerge", "(*internal/sync.Mutex).unlockSlow", "internal/sync.fatal", "internal/sync.runtime_Semrelease", "sync/atomic.StoreUint32"], unfollowed := true, recurses := true, named := ["vitrine/page.numbers"], apart := false, laid := [("vitrine/page.numbers", laid_vitrine_page_numbers)] }
def PageSignsSaid : Prop := pageSignsRow.holds Tryd.pinned (OpenSpec.ofChange pageSignsSpec)

/-- ITS FALSE NEIGHBOUR: 'it returns false'. Refute it at one input. -/
def pageSignsWrong : ChangeSpec := { name := "pageSigns", fn := fun _ => fun
  | [d] => { results := [.lit (.bool false)], args := [d] }
  | _ => none }
def PageSignsWrongFalsely : Prop := pageSignsRow.holds Tryd.pinned (OpenSpec.ofChange pageSignsWrong)

/-- 'vitrinelaw01.PageCodes': WHATEVER THE INPUT: true; the input reads as it did. -/
def pageCodesSpec : ChangeSpec := { name := "pageCodes", fn := fun _ => fun
  | [d1, d2] => { results := [.lit (.bool true)], args := [d1, d2] }
  | _ => none }
def pageCodesRow : OpenClaim := { program := "ytadoiplfglaonaadoor", sum := "cbf503bdacdd2440e544f9bc8501ee28f5de54163b2f63e34612788f738339e1", func := "vitrine/vitrinelaw01.PageCodes", spec := "pageCodes", inPlace := ["sync/atomic.LoadUint32", "(*internal/sync.Mutex).Lock", "internal/race.Disable", "sync/atomic.CompareAndSwapInt32", "internal/race.Enable", "internal/race.Acquire", "(*internal/sync.Mutex).lockSlow", "internal/sync.runtime_canSpin", "internal/sync.runtime_doSpin", "internal/sync.throw", "internal/sync.runtime_nanotime", "internal/sync.runtime_SemacquireMutex", "sync/atomic.AddInt32", "(*internal/sync.Mutex).Unlock", "internal/race.ReleaseMerge", "(*internal/sync.Mutex).unlockSlow", "internal/sync.fatal", "internal/sync.runtime_Semrelease", "sync/atomic.StoreUint32"], unfollowed := true, recurses := true, named := ["vitrine/page.numbers"], apart := false, laid := [("vitrine/page.numbers", laid_vitrine_page_numbers)] }
def PageCodesSaid : Prop := pageCodesRow.holds Tryd.pinned (OpenSpec.ofChange pageCodesSpec)

/-- ITS FALSE NEIGHBOUR: 'it returns false'. Refute it at one input. -/
def pageCodesWrong : ChangeSpec := { name := "pageCodes", fn := fun _ => fun
  | [d1, d2] => { results := [.lit (.bool false)], args := [d1, d2] }
  | _ => none }
def PageCodesWrongFalsely : Prop := pageCodesRow.holds Tryd.pinned (OpenSpec.ofChange pageCodesWrong)

/-- 'vitrinelaw01.PageTexts': WHATEVER THE INPUT: true; the input reads as it did. -/
def pageTextsSpec : ChangeSpec := { name := "pageTexts", fn := fun _ => fun
  | [d1, d2] => { results := [.lit (.bool true)], args := [d1, d2] }
  | _ => none }
def pageTextsRow : OpenClaim := { program := "ytadoiplfglaonaadoor", sum := "cbf503bdacdd2440e544f9bc8501ee28f5de54163b2f63e34612788f738339e1", func := "vitrine/vitrinelaw01.PageTexts", spec := "pageTexts", inPlace := ["sync/atomic.LoadUint32", "(*internal/sync.Mutex).Lock", "internal/race.Disable", "sync/atomic.CompareAndSwapInt32", "internal/race.Enable", "internal/race.Acquire", "(*internal/sync.Mutex).lockSlow", "internal/sync.runtime_canSpin", "internal/sync.runtime_doSpin", "internal/sync.throw", "internal/sync.runtime_nanotime", "internal/sync.runtime_SemacquireMutex", "sync/atomic.AddInt32", "(*internal/sync.Mutex).Unlock", "internal/race.ReleaseMerge", "(*internal/sync.Mutex).unlockSlow", "internal/sync.fatal", "internal/sync.runtime_Semrelease", "sync/atomic.StoreUint32", "internal/abi.NoEscape"], unfollowed := true, recurses := true, named := ["vitrine/page.numbers", "unicode/utf8.first", "unicode/utf8.acceptRanges"], apart := false, laid := [("unicode/utf8.acceptRanges", laid_unicode_utf8_acceptRanges), ("vitrine/page.numbers", laid_vitrine_page_numbers), ("unicode/utf8.first", laid_unicode_utf8_first)] }
def PageTextsSaid : Prop := pageTextsRow.holds Tryd.pinned (OpenSpec.ofChange pageTextsSpec)

/-- ITS FALSE NEIGHBOUR: 'it returns false'. Refute it at one input. -/
def pageTextsWrong : ChangeSpec := { name := "pageTexts", fn := fun _ => fun
  | [d1, d2] => { results := [.lit (.bool false)], args := [d1, d2] }
  | _ => none }
def PageTextsWrongFalsely : Prop := pageTextsRow.holds Tryd.pinned (OpenSpec.ofChange pageTextsWrong)

/-- 'vitrinelaw01.PageReads': WHATEVER THE INPUT: true; the input reads as it did. -/
def pageReadsSpec : ChangeSpec := { name := "pageReads", fn := fun _ => fun
  | [d1, d2] => { results := [.lit (.bool true)], args := [d1, d2] }
  | _ => none }
def pageReadsRow : OpenClaim := { program := "ytadoiplfglaonaadoor", sum := "cbf503bdacdd2440e544f9bc8501ee28f5de54163b2f63e34612788f738339e1", func := "vitrine/vitrinelaw01.PageReads", spec := "pageReads", inPlace := ["sync/atomic.LoadUint32", "(*internal/sync.Mutex).Lock", "internal/race.Disable", "sync/atomic.CompareAndSwapInt32", "internal/race.Enable", "internal/race.Acquire", "(*internal/sync.Mutex).lockSlow", "internal/sync.runtime_canSpin", "internal/sync.runtime_doSpin", "internal/sync.throw", "internal/sync.runtime_nanotime", "internal/sync.runtime_SemacquireMutex", "sync/atomic.AddInt32", "(*internal/sync.Mutex).Unlock", "internal/race.ReleaseMerge", "(*internal/sync.Mutex).unlockSlow", "internal/sync.fatal", "internal/sync.runtime_Semrelease", "sync/atomic.StoreUint32"], unfollowed := true, recurses := true, named := ["vitrine/page.numbers", "unicode/utf8.first", "unicode/utf8.acceptRanges"], apart := false, laid := [("unicode/utf8.acceptRanges", laid_unicode_utf8_acceptRanges), ("vitrine/page.numbers", laid_vitrine_page_numbers), ("unicode/utf8.first", laid_unicode_utf8_first)] }
def PageReadsSaid : Prop := pageReadsRow.holds Tryd.pinned (OpenSpec.ofChange pageReadsSpec)

/-- ITS FALSE NEIGHBOUR: 'it returns false'. Refute it at one input. -/
def pageReadsWrong : ChangeSpec := { name := "pageReads", fn := fun _ => fun
  | [d1, d2] => { results := [.lit (.bool false)], args := [d1, d2] }
  | _ => none }
def PageReadsWrongFalsely : Prop := pageReadsRow.holds Tryd.pinned (OpenSpec.ofChange pageReadsWrong)

/-- 'vitrinelaw01.PageUppers': WHATEVER THE INPUT: true; the input reads as it did. -/
def pageUppersSpec : ChangeSpec := { name := "pageUppers", fn := fun _ => fun
  | [d] => { results := [.lit (.bool true)], args := [d] }
  | _ => none }
def pageUppersRow : OpenClaim := { program := "ytadoiplfglaonaadoor", sum := "cbf503bdacdd2440e544f9bc8501ee28f5de54163b2f63e34612788f738339e1", func := "vitrine/vitrinelaw01.PageUppers", spec := "pageUppers", inPlace := ["sync/atomic.LoadUint32", "(*internal/sync.Mutex).Lock", "internal/race.Disable", "sync/atomic.CompareAndSwapInt32", "internal/race.Enable", "internal/race.Acquire", "(*internal/sync.Mutex).lockSlow", "internal/sync.runtime_canSpin", "internal/sync.runtime_doSpin", "internal/sync.throw", "internal/sync.runtime_nanotime", "internal/sync.runtime_SemacquireMutex", "sync/atomic.AddInt32", "(*internal/sync.Mutex).Unlock", "internal/race.ReleaseMerge", "(*internal/sync.Mutex).unlockSlow", "internal/sync.fatal", "internal/sync.runtime_Semrelease", "sync/atomic.StoreUint32"], unfollowed := true, recurses := true, named := ["vitrine/page.numbers"], apart := false, laid := [("vitrine/page.numbers", laid_vitrine_page_numbers)] }
def PageUppersSaid : Prop := pageUppersRow.holds Tryd.pinned (OpenSpec.ofChange pageUppersSpec)

/-- ITS FALSE NEIGHBOUR: 'it returns false'. Refute it at one input. -/
def pageUppersWrong : ChangeSpec := { name := "pageUppers", fn := fun _ => fun
  | [d] => { results := [.lit (.bool false)], args := [d] }
  | _ => none }
def PageUppersWrongFalsely : Prop := pageUppersRow.holds Tryd.pinned (OpenSpec.ofChange pageUppersWrong)

/-- 'vitrinelaw01.PageEscapes': WHATEVER THE INPUT: true; the input reads as it did. -/
def pageEscapesSpec : ChangeSpec := { name := "pageEscapes", fn := fun _ => fun
  | [d1, d2] => { results := [.lit (.bool true)], args := [d1, d2] }
  | _ => none }
def pageEscapesRow : OpenClaim := { program := "ytadoiplfglaonaadoor", sum := "cbf503bdacdd2440e544f9bc8501ee28f5de54163b2f63e34612788f738339e1", func := "vitrine/vitrinelaw01.PageEscapes", spec := "pageEscapes", inPlace := ["sync/atomic.LoadUint32", "(*internal/sync.Mutex).Lock", "internal/race.Disable", "sync/atomic.CompareAndSwapInt32", "internal/race.Enable", "internal/race.Acquire", "(*internal/sync.Mutex).lockSlow", "internal/sync.runtime_canSpin", "internal/sync.runtime_doSpin", "internal/sync.throw", "internal/sync.runtime_nanotime", "internal/sync.runtime_SemacquireMutex", "sync/atomic.AddInt32", "(*internal/sync.Mutex).Unlock", "internal/race.ReleaseMerge", "(*internal/sync.Mutex).unlockSlow", "internal/sync.fatal", "internal/sync.runtime_Semrelease", "sync/atomic.StoreUint32"], unfollowed := true, recurses := true, named := ["vitrine/page.numbers", "vitrine/page.escapes"], apart := false, laid := [("vitrine/page.numbers", laid_vitrine_page_numbers), ("vitrine/page.escapes", laid_vitrine_page_escapes)] }
def PageEscapesSaid : Prop := pageEscapesRow.holds Tryd.pinned (OpenSpec.ofChange pageEscapesSpec)

/-- ITS FALSE NEIGHBOUR: 'it returns false'. Refute it at one input. -/
def pageEscapesWrong : ChangeSpec := { name := "pageEscapes", fn := fun _ => fun
  | [d1, d2] => { results := [.lit (.bool false)], args := [d1, d2] }
  | _ => none }
def PageEscapesWrongFalsely : Prop := pageEscapesRow.holds Tryd.pinned (OpenSpec.ofChange pageEscapesWrong)

/-- 'vitrinelaw01.PageNumbers': WHATEVER THE INPUT: true; the input reads as it did. -/
def pageNumbersSpec : ChangeSpec := { name := "pageNumbers", fn := fun _ => fun
  | [d1, d2] => { results := [.lit (.bool true)], args := [d1, d2] }
  | _ => none }
def pageNumbersRow : OpenClaim := { program := "ytadoiplfglaonaadoor", sum := "cbf503bdacdd2440e544f9bc8501ee28f5de54163b2f63e34612788f738339e1", func := "vitrine/vitrinelaw01.PageNumbers", spec := "pageNumbers", inPlace := ["sync/atomic.LoadUint32", "(*internal/sync.Mutex).Lock", "internal/race.Disable", "sync/atomic.CompareAndSwapInt32", "internal/race.Enable", "internal/race.Acquire", "(*internal/sync.Mutex).lockSlow", "internal/sync.runtime_canSpin", "internal/sync.runtime_doSpin", "internal/sync.throw", "internal/sync.runtime_nanotime", "internal/sync.runtime_SemacquireMutex", "sync/atomic.AddInt32", "(*internal/sync.Mutex).Unlock", "internal/race.ReleaseMerge", "(*internal/sync.Mutex).unlockSlow", "internal/sync.fatal", "internal/sync.runtime_Semrelease", "sync/atomic.StoreUint32", "internal/abi.NoEscape"], unfollowed := true, recurses := true, named := ["vitrine/page.numbers", "unicode/utf8.first", "unicode/utf8.acceptRanges"], apart := false, laid := [("unicode/utf8.acceptRanges", laid_unicode_utf8_acceptRanges), ("vitrine/page.numbers", laid_vitrine_page_numbers), ("unicode/utf8.first", laid_unicode_utf8_first)] }
def PageNumbersSaid : Prop := pageNumbersRow.holds Tryd.pinned (OpenSpec.ofChange pageNumbersSpec)

/-- ITS FALSE NEIGHBOUR: 'it returns false'. Refute it at one input. -/
def pageNumbersWrong : ChangeSpec := { name := "pageNumbers", fn := fun _ => fun
  | [d1, d2] => { results := [.lit (.bool false)], args := [d1, d2] }
  | _ => none }
def PageNumbersWrongFalsely : Prop := pageNumbersRow.holds Tryd.pinned (OpenSpec.ofChange pageNumbersWrong)

/-- 'vitrinelaw01.PageCommon': WHATEVER THE INPUT: true; the input reads as it did. -/
def pageCommonSpec : ChangeSpec := { name := "pageCommon", fn := fun _ => fun
  | [d1, d2] => { results := [.lit (.bool true)], args := [d1, d2] }
  | _ => none }
def pageCommonRow : OpenClaim := { program := "ytadoiplfglaonaadoor", sum := "cbf503bdacdd2440e544f9bc8501ee28f5de54163b2f63e34612788f738339e1", func := "vitrine/vitrinelaw01.PageCommon", spec := "pageCommon", inPlace := ["sync/atomic.LoadUint32", "(*internal/sync.Mutex).Lock", "internal/race.Disable", "sync/atomic.CompareAndSwapInt32", "internal/race.Enable", "internal/race.Acquire", "(*internal/sync.Mutex).lockSlow", "internal/sync.runtime_canSpin", "internal/sync.runtime_doSpin", "internal/sync.throw", "internal/sync.runtime_nanotime", "internal/sync.runtime_SemacquireMutex", "sync/atomic.AddInt32", "(*internal/sync.Mutex).Unlock", "internal/race.ReleaseMerge", "(*internal/sync.Mutex).unlockSlow", "internal/sync.fatal", "internal/sync.runtime_Semrelease", "sync/atomic.StoreUint32"], unfollowed := true, recurses := true, named := ["vitrine/page.numbers"], apart := false, laid := [("vitrine/page.numbers", laid_vitrine_page_numbers)] }
def PageCommonSaid : Prop := pageCommonRow.holds Tryd.pinned (OpenSpec.ofChange pageCommonSpec)

/-- ITS FALSE NEIGHBOUR: 'it returns false'. Refute it at one input. -/
def pageCommonWrong : ChangeSpec := { name := "pageCommon", fn := fun _ => fun
  | [d1, d2] => { results := [.lit (.bool false)], args := [d1, d2] }
  | _ => none }
def PageCommonWrongFalsely : Prop := pageCommonRow.holds Tryd.pinned (OpenSpec.ofChange pageCommonWrong)

/-- 'vitrinelaw02.ClassOf': WHATEVER THE INPUT: true; the input reads as it did. -/
def classOfSpec : ChangeSpec := { name := "classOf", fn := fun _ => fun
  | [d1, d2] => { results := [.lit (.bool true)], args := [d1, d2] }
  | _ => none }
def classOfRow : OpenClaim := { program := "ytadoiplfglaonaadoor", sum := "cbf503bdacdd2440e544f9bc8501ee28f5de54163b2f63e34612788f738339e1", func := "vitrine/vitrinelaw02.ClassOf", spec := "classOf", inPlace := ["sync/atomic.LoadUint32", "(*internal/sync.Mutex).Lock", "internal/race.Disable", "sync/atomic.CompareAndSwapInt32", "internal/race.Enable", "internal/race.Acquire", "(*internal/sync.Mutex).lockSlow", "internal/sync.runtime_canSpin", "internal/sync.runtime_doSpin", "internal/sync.throw", "internal/sync.runtime_nanotime", "internal/sync.runtime_SemacquireMutex", "sync/atomic.AddInt32", "(*internal/sync.Mutex).Unlock", "internal/race.ReleaseMerge", "(*internal/sync.Mutex).unlockSlow", "internal/sync.fatal", "internal/sync.runtime_Semrelease", "sync/atomic.StoreUint32"], unfollowed := true, recurses := true, named := ["vitrine/page.numbers", "vitrine/class.names"], apart := false, laid := [("vitrine/page.numbers", laid_vitrine_page_numbers), ("vitrine/class.names", laid_vitrine_class_names)] }
def ClassOfSaid : Prop := classOfRow.holds Tryd.pinned (OpenSpec.ofChange classOfSpec)

/-- ITS FALSE NEIGHBOUR: 'it returns false'. Refute it at one input. -/
def classOfWrong : ChangeSpec := { name := "classOf", fn := fun _ => fun
  | [d1, d2] => { results := [.lit (.bool false)], args := [d1, d2] }
  | _ => none }
def ClassOfWrongFalsely : Prop := classOfRow.holds Tryd.pinned (OpenSpec.ofChange classOfWrong)

/-- 'vitrinelaw02.ClassUses': WHATEVER THE INPUT: true; the input reads as it did. -/
def classUsesSpec : ChangeSpec := { name := "classUses", fn := fun _ => fun
  | [d] => { results := [.lit (.bool true)], args := [d] }
  | _ => none }
def classUsesRow : OpenClaim := { program := "ytadoiplfglaonaadoor", sum := "cbf503bdacdd2440e544f9bc8501ee28f5de54163b2f63e34612788f738339e1", func := "vitrine/vitrinelaw02.ClassUses", spec := "classUses", inPlace := ["sync/atomic.LoadUint32", "(*internal/sync.Mutex).Lock", "internal/race.Disable", "sync/atomic.CompareAndSwapInt32", "internal/race.Enable", "internal/race.Acquire", "(*internal/sync.Mutex).lockSlow", "internal/sync.runtime_canSpin", "internal/sync.runtime_doSpin", "internal/sync.throw", "internal/sync.runtime_nanotime", "internal/sync.runtime_SemacquireMutex", "sync/atomic.AddInt32", "(*internal/sync.Mutex).Unlock", "internal/race.ReleaseMerge", "(*internal/sync.Mutex).unlockSlow", "internal/sync.fatal", "internal/sync.runtime_Semrelease", "sync/atomic.StoreUint32"], unfollowed := true, recurses := true, named := ["vitrine/page.numbers"], apart := false, laid := [("vitrine/page.numbers", laid_vitrine_page_numbers)] }
def ClassUsesSaid : Prop := classUsesRow.holds Tryd.pinned (OpenSpec.ofChange classUsesSpec)

/-- ITS FALSE NEIGHBOUR: 'it returns false'. Refute it at one input. -/
def classUsesWrong : ChangeSpec := { name := "classUses", fn := fun _ => fun
  | [d] => { results := [.lit (.bool false)], args := [d] }
  | _ => none }
def ClassUsesWrongFalsely : Prop := classUsesRow.holds Tryd.pinned (OpenSpec.ofChange classUsesWrong)

/-- 'vitrinelaw02.ClassCounts': WHATEVER THE INPUT: true; the input reads as it did. -/
def classCountsSpec : ChangeSpec := { name := "classCounts", fn := fun _ => fun
  | [d1, d2] => { results := [.lit (.bool true)], args := [d1, d2] }
  | _ => none }
def classCountsRow : OpenClaim := { program := "ytadoiplfglaonaadoor", sum := "cbf503bdacdd2440e544f9bc8501ee28f5de54163b2f63e34612788f738339e1", func := "vitrine/vitrinelaw02.ClassCounts", spec := "classCounts", inPlace := ["sync/atomic.LoadUint32", "(*internal/sync.Mutex).Lock", "internal/race.Disable", "sync/atomic.CompareAndSwapInt32", "internal/race.Enable", "internal/race.Acquire", "(*internal/sync.Mutex).lockSlow", "internal/sync.runtime_canSpin", "internal/sync.runtime_doSpin", "internal/sync.throw", "internal/sync.runtime_nanotime", "internal/sync.runtime_SemacquireMutex", "sync/atomic.AddInt32", "(*internal/sync.Mutex).Unlock", "internal/race.ReleaseMerge", "(*internal/sync.Mutex).unlockSlow", "internal/sync.fatal", "internal/sync.runtime_Semrelease", "sync/atomic.StoreUint32"], unfollowed := true, recurses := true, named := ["vitrine/page.numbers"], apart := false, laid := [("vitrine/page.numbers", laid_vitrine_page_numbers)] }
def ClassCountsSaid : Prop := classCountsRow.holds Tryd.pinned (OpenSpec.ofChange classCountsSpec)

/-- ITS FALSE NEIGHBOUR: 'it returns false'. Refute it at one input. -/
def classCountsWrong : ChangeSpec := { name := "classCounts", fn := fun _ => fun
  | [d1, d2] => { results := [.lit (.bool false)], args := [d1, d2] }
  | _ => none }
def ClassCountsWrongFalsely : Prop := classCountsRow.holds Tryd.pinned (OpenSpec.ofChange classCountsWrong)

/-- 'vitrinelaw02.ClassAlone': WHATEVER THE INPUT: true; the input reads as it did. -/
def classAloneSpec : ChangeSpec := { name := "classAlone", fn := fun _ => fun
  | [d1, d2] => { results := [.lit (.bool true)], args := [d1, d2] }
  | _ => none }
def classAloneRow : OpenClaim := { program := "ytadoiplfglaonaadoor", sum := "cbf503bdacdd2440e544f9bc8501ee28f5de54163b2f63e34612788f738339e1", func := "vitrine/vitrinelaw02.ClassAlone", spec := "classAlone", inPlace := ["sync/atomic.LoadUint32", "(*internal/sync.Mutex).Lock", "internal/race.Disable", "sync/atomic.CompareAndSwapInt32", "internal/race.Enable", "internal/race.Acquire", "(*internal/sync.Mutex).lockSlow", "internal/sync.runtime_canSpin", "internal/sync.runtime_doSpin", "internal/sync.throw", "internal/sync.runtime_nanotime", "internal/sync.runtime_SemacquireMutex", "sync/atomic.AddInt32", "(*internal/sync.Mutex).Unlock", "internal/race.ReleaseMerge", "(*internal/sync.Mutex).unlockSlow", "internal/sync.fatal", "internal/sync.runtime_Semrelease", "sync/atomic.StoreUint32"], unfollowed := true, recurses := true, named := ["vitrine/page.numbers"], apart := false, laid := [("vitrine/page.numbers", laid_vitrine_page_numbers)] }
def ClassAloneSaid : Prop := classAloneRow.holds Tryd.pinned (OpenSpec.ofChange classAloneSpec)

/-- ITS FALSE NEIGHBOUR: 'it returns false'. Refute it at one input. -/
def classAloneWrong : ChangeSpec := { name := "classAlone", fn := fun _ => fun
  | [d1, d2] => { results := [.lit (.bool false)], args := [d1, d2] }
  | _ => none }
def ClassAloneWrongFalsely : Prop := classAloneRow.holds Tryd.pinned (OpenSpec.ofChange classAloneWrong)

/- THE SECOND FORM. 'bulk': how many values and letters a reading holds, each counted each time it is reached (what is shared counts as often as it is met; a slice's spare places count too). A statement '..UptoSaid' is the law's where the arguments, and the package variables that the reading takes, are together of bulk at most 1048576: NARROWER than '..Said'. Prove '..Said' where nothing that the law and all that it calls make is longer than what came in: it says more and counts as full. Else prove '..UptoSaid'. A law counts once. -/
mutual
def uptoBulk {H : Type} : DataW H → Nat
  | .lit (.string bytes) => bytes.length + 1
  | .lit _ => 1
  | .nil => 1
  | .ptr d => uptoBulk d + 1
  | .slice elems spare => uptoBulkAll elems + uptoBulkAll spare + 1
  | .agg parts => uptoBulkAll parts + 1
  | .iface _ d => uptoBulk d + 1
  | .map entries => uptoBulkEntries entries + 1
  | .held _ => 1
def uptoBulkAll {H : Type} : List (DataW H) → Nat
  | [] => 0
  | d :: r => uptoBulk d + uptoBulkAll r
def uptoBulkEntries {H : Type} : List (Lit × DataW H) → Nat
  | [] => 0
  | x :: r => uptoBulkEntry x + uptoBulkEntries r
def uptoBulkEntry {H : Type} : Lit × DataW H → Nat
  | (.string bytes, d) => bytes.length + uptoBulk d + 1
  | (_, d) => uptoBulk d + 1
 end
def uptoSmall : (H : Type) → List (DataW H) → Bool := fun _ ds => decide (uptoBulkAll ds ≤ 1048576)
def OpenSpec.upto (s : _root_.Go.ChangeSpec) : _root_.Go.OpenSpec := { _root_.Go.OpenSpec.ofChange s with cond := some uptoSmall }

/-- 'vitrinelaw01.PageSigns', WHERE WHAT IT READS IS OF BULK AT MOST 1048576: true; the input reads as it did. -/
def pageSignsUptoRow : OpenClaim := { program := "ytadoiplfglaonaadoor", sum := "cbf503bdacdd2440e544f9bc8501ee28f5de54163b2f63e34612788f738339e1", func := "vitrine/vitrinelaw01.PageSigns", spec := "pageSigns", inPlace := ["sync/atomic.LoadUint32", "(*internal/sync.Mutex).Lock", "internal/race.Disable", "sync/atomic.CompareAndSwapInt32", "internal/race.Enable", "internal/race.Acquire", "(*internal/sync.Mutex).lockSlow", "internal/sync.runtime_canSpin", "internal/sync.runtime_doSpin", "internal/sync.throw", "internal/sync.runtime_nanotime", "internal/sync.runtime_SemacquireMutex", "sync/atomic.AddInt32", "(*internal/sync.Mutex).Unlock", "internal/race.ReleaseMerge", "(*internal/sync.Mutex).unlockSlow", "internal/sync.fatal", "internal/sync.runtime_Semrelease", "sync/atomic.StoreUint32"], unfollowed := true, recurses := true, named := ["vitrine/page.numbers"], apart := false, laid := [("vitrine/page.numbers", laid_vitrine_page_numbers)], narrowed := true }
def PageSignsUptoSaid : Prop := pageSignsUptoRow.holds Tryd.pinned (OpenSpec.upto pageSignsSpec)

/-- 'vitrinelaw01.PageCodes', WHERE WHAT IT READS IS OF BULK AT MOST 1048576: true; the input reads as it did. -/
def pageCodesUptoRow : OpenClaim := { program := "ytadoiplfglaonaadoor", sum := "cbf503bdacdd2440e544f9bc8501ee28f5de54163b2f63e34612788f738339e1", func := "vitrine/vitrinelaw01.PageCodes", spec := "pageCodes", inPlace := ["sync/atomic.LoadUint32", "(*internal/sync.Mutex).Lock", "internal/race.Disable", "sync/atomic.CompareAndSwapInt32", "internal/race.Enable", "internal/race.Acquire", "(*internal/sync.Mutex).lockSlow", "internal/sync.runtime_canSpin", "internal/sync.runtime_doSpin", "internal/sync.throw", "internal/sync.runtime_nanotime", "internal/sync.runtime_SemacquireMutex", "sync/atomic.AddInt32", "(*internal/sync.Mutex).Unlock", "internal/race.ReleaseMerge", "(*internal/sync.Mutex).unlockSlow", "internal/sync.fatal", "internal/sync.runtime_Semrelease", "sync/atomic.StoreUint32"], unfollowed := true, recurses := true, named := ["vitrine/page.numbers"], apart := false, laid := [("vitrine/page.numbers", laid_vitrine_page_numbers)], narrowed := true }
def PageCodesUptoSaid : Prop := pageCodesUptoRow.holds Tryd.pinned (OpenSpec.upto pageCodesSpec)

/-- 'vitrinelaw01.PageTexts', WHERE WHAT IT READS IS OF BULK AT MOST 1048576: true; the input reads as it did. -/
def pageTextsUptoRow : OpenClaim := { program := "ytadoiplfglaonaadoor", sum := "cbf503bdacdd2440e544f9bc8501ee28f5de54163b2f63e34612788f738339e1", func := "vitrine/vitrinelaw01.PageTexts", spec := "pageTexts", inPlace := ["sync/atomic.LoadUint32", "(*internal/sync.Mutex).Lock", "internal/race.Disable", "sync/atomic.CompareAndSwapInt32", "internal/race.Enable", "internal/race.Acquire", "(*internal/sync.Mutex).lockSlow", "internal/sync.runtime_canSpin", "internal/sync.runtime_doSpin", "internal/sync.throw", "internal/sync.runtime_nanotime", "internal/sync.runtime_SemacquireMutex", "sync/atomic.AddInt32", "(*internal/sync.Mutex).Unlock", "internal/race.ReleaseMerge", "(*internal/sync.Mutex).unlockSlow", "internal/sync.fatal", "internal/sync.runtime_Semrelease", "sync/atomic.StoreUint32", "internal/abi.NoEscape"], unfollowed := true, recurses := true, named := ["vitrine/page.numbers", "unicode/utf8.first", "unicode/utf8.acceptRanges"], apart := false, laid := [("unicode/utf8.acceptRanges", laid_unicode_utf8_acceptRanges), ("vitrine/page.numbers", laid_vitrine_page_numbers), ("unicode/utf8.first", laid_unicode_utf8_first)], narrowed := true }
def PageTextsUptoSaid : Prop := pageTextsUptoRow.holds Tryd.pinned (OpenSpec.upto pageTextsSpec)

/-- 'vitrinelaw01.PageReads', WHERE WHAT IT READS IS OF BULK AT MOST 1048576: true; the input reads as it did. -/
def pageReadsUptoRow : OpenClaim := { program := "ytadoiplfglaonaadoor", sum := "cbf503bdacdd2440e544f9bc8501ee28f5de54163b2f63e34612788f738339e1", func := "vitrine/vitrinelaw01.PageReads", spec := "pageReads", inPlace := ["sync/atomic.LoadUint32", "(*internal/sync.Mutex).Lock", "internal/race.Disable", "sync/atomic.CompareAndSwapInt32", "internal/race.Enable", "internal/race.Acquire", "(*internal/sync.Mutex).lockSlow", "internal/sync.runtime_canSpin", "internal/sync.runtime_doSpin", "internal/sync.throw", "internal/sync.runtime_nanotime", "internal/sync.runtime_SemacquireMutex", "sync/atomic.AddInt32", "(*internal/sync.Mutex).Unlock", "internal/race.ReleaseMerge", "(*internal/sync.Mutex).unlockSlow", "internal/sync.fatal", "internal/sync.runtime_Semrelease", "sync/atomic.StoreUint32"], unfollowed := true, recurses := true, named := ["vitrine/page.numbers", "unicode/utf8.first", "unicode/utf8.acceptRanges"], apart := false, laid := [("unicode/utf8.acceptRanges", laid_unicode_utf8_acceptRanges), ("vitrine/page.numbers", laid_vitrine_page_numbers), ("unicode/utf8.first", laid_unicode_utf8_first)], narrowed := true }
def PageReadsUptoSaid : Prop := pageReadsUptoRow.holds Tryd.pinned (OpenSpec.upto pageReadsSpec)

/-- 'vitrinelaw01.PageUppers', WHERE WHAT IT READS IS OF BULK AT MOST 1048576: true; the input reads as it did. -/
def pageUppersUptoRow : OpenClaim := { program := "ytadoiplfglaonaadoor", sum := "cbf503bdacdd2440e544f9bc8501ee28f5de54163b2f63e34612788f738339e1", func := "vitrine/vitrinelaw01.PageUppers", spec := "pageUppers", inPlace := ["sync/atomic.LoadUint32", "(*internal/sync.Mutex).Lock", "internal/race.Disable", "sync/atomic.CompareAndSwapInt32", "internal/race.Enable", "internal/race.Acquire", "(*internal/sync.Mutex).lockSlow", "internal/sync.runtime_canSpin", "internal/sync.runtime_doSpin", "internal/sync.throw", "internal/sync.runtime_nanotime", "internal/sync.runtime_SemacquireMutex", "sync/atomic.AddInt32", "(*internal/sync.Mutex).Unlock", "internal/race.ReleaseMerge", "(*internal/sync.Mutex).unlockSlow", "internal/sync.fatal", "internal/sync.runtime_Semrelease", "sync/atomic.StoreUint32"], unfollowed := true, recurses := true, named := ["vitrine/page.numbers"], apart := false, laid := [("vitrine/page.numbers", laid_vitrine_page_numbers)], narrowed := true }
def PageUppersUptoSaid : Prop := pageUppersUptoRow.holds Tryd.pinned (OpenSpec.upto pageUppersSpec)

/-- 'vitrinelaw01.PageEscapes', WHERE WHAT IT READS IS OF BULK AT MOST 1048576: true; the input reads as it did. -/
def pageEscapesUptoRow : OpenClaim := { program := "ytadoiplfglaonaadoor", sum := "cbf503bdacdd2440e544f9bc8501ee28f5de54163b2f63e34612788f738339e1", func := "vitrine/vitrinelaw01.PageEscapes", spec := "pageEscapes", inPlace := ["sync/atomic.LoadUint32", "(*internal/sync.Mutex).Lock", "internal/race.Disable", "sync/atomic.CompareAndSwapInt32", "internal/race.Enable", "internal/race.Acquire", "(*internal/sync.Mutex).lockSlow", "internal/sync.runtime_canSpin", "internal/sync.runtime_doSpin", "internal/sync.throw", "internal/sync.runtime_nanotime", "internal/sync.runtime_SemacquireMutex", "sync/atomic.AddInt32", "(*internal/sync.Mutex).Unlock", "internal/race.ReleaseMerge", "(*internal/sync.Mutex).unlockSlow", "internal/sync.fatal", "internal/sync.runtime_Semrelease", "sync/atomic.StoreUint32"], unfollowed := true, recurses := true, named := ["vitrine/page.numbers", "vitrine/page.escapes"], apart := false, laid := [("vitrine/page.numbers", laid_vitrine_page_numbers), ("vitrine/page.escapes", laid_vitrine_page_escapes)], narrowed := true }
def PageEscapesUptoSaid : Prop := pageEscapesUptoRow.holds Tryd.pinned (OpenSpec.upto pageEscapesSpec)

/-- 'vitrinelaw01.PageNumbers', WHERE WHAT IT READS IS OF BULK AT MOST 1048576: true; the input reads as it did. -/
def pageNumbersUptoRow : OpenClaim := { program := "ytadoiplfglaonaadoor", sum := "cbf503bdacdd2440e544f9bc8501ee28f5de54163b2f63e34612788f738339e1", func := "vitrine/vitrinelaw01.PageNumbers", spec := "pageNumbers", inPlace := ["sync/atomic.LoadUint32", "(*internal/sync.Mutex).Lock", "internal/race.Disable", "sync/atomic.CompareAndSwapInt32", "internal/race.Enable", "internal/race.Acquire", "(*internal/sync.Mutex).lockSlow", "internal/sync.runtime_canSpin", "internal/sync.runtime_doSpin", "internal/sync.throw", "internal/sync.runtime_nanotime", "internal/sync.runtime_SemacquireMutex", "sync/atomic.AddInt32", "(*internal/sync.Mutex).Unlock", "internal/race.ReleaseMerge", "(*internal/sync.Mutex).unlockSlow", "internal/sync.fatal", "internal/sync.runtime_Semrelease", "sync/atomic.StoreUint32", "internal/abi.NoEscape"], unfollowed := true, recurses := true, named := ["vitrine/page.numbers", "unicode/utf8.first", "unicode/utf8.acceptRanges"], apart := false, laid := [("unicode/utf8.acceptRanges", laid_unicode_utf8_acceptRanges), ("vitrine/page.numbers", laid_vitrine_page_numbers), ("unicode/utf8.first", laid_unicode_utf8_first)], narrowed := true }
def PageNumbersUptoSaid : Prop := pageNumbersUptoRow.holds Tryd.pinned (OpenSpec.upto pageNumbersSpec)

/-- 'vitrinelaw01.PageCommon', WHERE WHAT IT READS IS OF BULK AT MOST 1048576: true; the input reads as it did. -/
def pageCommonUptoRow : OpenClaim := { program := "ytadoiplfglaonaadoor", sum := "cbf503bdacdd2440e544f9bc8501ee28f5de54163b2f63e34612788f738339e1", func := "vitrine/vitrinelaw01.PageCommon", spec := "pageCommon", inPlace := ["sync/atomic.LoadUint32", "(*internal/sync.Mutex).Lock", "internal/race.Disable", "sync/atomic.CompareAndSwapInt32", "internal/race.Enable", "internal/race.Acquire", "(*internal/sync.Mutex).lockSlow", "internal/sync.runtime_canSpin", "internal/sync.runtime_doSpin", "internal/sync.throw", "internal/sync.runtime_nanotime", "internal/sync.runtime_SemacquireMutex", "sync/atomic.AddInt32", "(*internal/sync.Mutex).Unlock", "internal/race.ReleaseMerge", "(*internal/sync.Mutex).unlockSlow", "internal/sync.fatal", "internal/sync.runtime_Semrelease", "sync/atomic.StoreUint32"], unfollowed := true, recurses := true, named := ["vitrine/page.numbers"], apart := false, laid := [("vitrine/page.numbers", laid_vitrine_page_numbers)], narrowed := true }
def PageCommonUptoSaid : Prop := pageCommonUptoRow.holds Tryd.pinned (OpenSpec.upto pageCommonSpec)

/-- 'vitrinelaw02.ClassOf', WHERE WHAT IT READS IS OF BULK AT MOST 1048576: true; the input reads as it did. -/
def classOfUptoRow : OpenClaim := { program := "ytadoiplfglaonaadoor", sum := "cbf503bdacdd2440e544f9bc8501ee28f5de54163b2f63e34612788f738339e1", func := "vitrine/vitrinelaw02.ClassOf", spec := "classOf", inPlace := ["sync/atomic.LoadUint32", "(*internal/sync.Mutex).Lock", "internal/race.Disable", "sync/atomic.CompareAndSwapInt32", "internal/race.Enable", "internal/race.Acquire", "(*internal/sync.Mutex).lockSlow", "internal/sync.runtime_canSpin", "internal/sync.runtime_doSpin", "internal/sync.throw", "internal/sync.runtime_nanotime", "internal/sync.runtime_SemacquireMutex", "sync/atomic.AddInt32", "(*internal/sync.Mutex).Unlock", "internal/race.ReleaseMerge", "(*internal/sync.Mutex).unlockSlow", "internal/sync.fatal", "internal/sync.runtime_Semrelease", "sync/atomic.StoreUint32"], unfollowed := true, recurses := true, named := ["vitrine/page.numbers", "vitrine/class.names"], apart := false, laid := [("vitrine/page.numbers", laid_vitrine_page_numbers), ("vitrine/class.names", laid_vitrine_class_names)], narrowed := true }
def ClassOfUptoSaid : Prop := classOfUptoRow.holds Tryd.pinned (OpenSpec.upto classOfSpec)

/-- 'vitrinelaw02.ClassUses', WHERE WHAT IT READS IS OF BULK AT MOST 1048576: true; the input reads as it did. -/
def classUsesUptoRow : OpenClaim := { program := "ytadoiplfglaonaadoor", sum := "cbf503bdacdd2440e544f9bc8501ee28f5de54163b2f63e34612788f738339e1", func := "vitrine/vitrinelaw02.ClassUses", spec := "classUses", inPlace := ["sync/atomic.LoadUint32", "(*internal/sync.Mutex).Lock", "internal/race.Disable", "sync/atomic.CompareAndSwapInt32", "internal/race.Enable", "internal/race.Acquire", "(*internal/sync.Mutex).lockSlow", "internal/sync.runtime_canSpin", "internal/sync.runtime_doSpin", "internal/sync.throw", "internal/sync.runtime_nanotime", "internal/sync.runtime_SemacquireMutex", "sync/atomic.AddInt32", "(*internal/sync.Mutex).Unlock", "internal/race.ReleaseMerge", "(*internal/sync.Mutex).unlockSlow", "internal/sync.fatal", "internal/sync.runtime_Semrelease", "sync/atomic.StoreUint32"], unfollowed := true, recurses := true, named := ["vitrine/page.numbers"], apart := false, laid := [("vitrine/page.numbers", laid_vitrine_page_numbers)], narrowed := true }
def ClassUsesUptoSaid : Prop := classUsesUptoRow.holds Tryd.pinned (OpenSpec.upto classUsesSpec)

/-- 'vitrinelaw02.ClassCounts', WHERE WHAT IT READS IS OF BULK AT MOST 1048576: true; the input reads as it did. -/
def classCountsUptoRow : OpenClaim := { program := "ytadoiplfglaonaadoor", sum := "cbf503bdacdd2440e544f9bc8501ee28f5de54163b2f63e34612788f738339e1", func := "vitrine/vitrinelaw02.ClassCounts", spec := "classCounts", inPlace := ["sync/atomic.LoadUint32", "(*internal/sync.Mutex).Lock", "internal/race.Disable", "sync/atomic.CompareAndSwapInt32", "internal/race.Enable", "internal/race.Acquire", "(*internal/sync.Mutex).lockSlow", "internal/sync.runtime_canSpin", "internal/sync.runtime_doSpin", "internal/sync.throw", "internal/sync.runtime_nanotime", "internal/sync.runtime_SemacquireMutex", "sync/atomic.AddInt32", "(*internal/sync.Mutex).Unlock", "internal/race.ReleaseMerge", "(*internal/sync.Mutex).unlockSlow", "internal/sync.fatal", "internal/sync.runtime_Semrelease", "sync/atomic.StoreUint32"], unfollowed := true, recurses := true, named := ["vitrine/page.numbers"], apart := false, laid := [("vitrine/page.numbers", laid_vitrine_page_numbers)], narrowed := true }
def ClassCountsUptoSaid : Prop := classCountsUptoRow.holds Tryd.pinned (OpenSpec.upto classCountsSpec)

/-- 'vitrinelaw02.ClassAlone', WHERE WHAT IT READS IS OF BULK AT MOST 1048576: true; the input reads as it did. -/
def classAloneUptoRow : OpenClaim := { program := "ytadoiplfglaonaadoor", sum := "cbf503bdacdd2440e544f9bc8501ee28f5de54163b2f63e34612788f738339e1", func := "vitrine/vitrinelaw02.ClassAlone", spec := "classAlone", inPlace := ["sync/atomic.LoadUint32", "(*internal/sync.Mutex).Lock", "internal/race.Disable", "sync/atomic.CompareAndSwapInt32", "internal/race.Enable", "internal/race.Acquire", "(*internal/sync.Mutex).lockSlow", "internal/sync.runtime_canSpin", "internal/sync.runtime_doSpin", "internal/sync.throw", "internal/sync.runtime_nanotime", "internal/sync.runtime_SemacquireMutex", "sync/atomic.AddInt32", "(*internal/sync.Mutex).Unlock", "internal/race.ReleaseMerge", "(*internal/sync.Mutex).unlockSlow", "internal/sync.fatal", "internal/sync.runtime_Semrelease", "sync/atomic.StoreUint32"], unfollowed := true, recurses := true, named := ["vitrine/page.numbers"], apart := false, laid := [("vitrine/page.numbers", laid_vitrine_page_numbers)], narrowed := true }
def ClassAloneUptoSaid : Prop := classAloneUptoRow.holds Tryd.pinned (OpenSpec.upto classAloneSpec)

end Rows
end Go.Proofs.YtadoiplfglaonaaDoor
