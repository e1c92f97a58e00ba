/-
  No cell of these rows narrows 'for every input' (looked for: loops, veiled, ifaces, maps, wideKeys, modest, calm, conditions, laid).
  DERIVED. THE GIVEN ROWS OF THIS SEAT. 10 by the template 'for every input the law returns true; each argument reads behind the call as it read before'; 0 by the template 'total and deterministic' (their statements: YtpehhinpohmpiaaTotals.lean).
  GIVEN WITH THE SEED: the statements are not yours to turn. If you find one false, say at which input.
  Laid BY PROGRAM, IN A SANDBOX (cutbox-rows.mjs): the forced cells as the released guide's own fill.sh prints them over the translation e4a27c419c17eb4d… (all of the seat's roots in one cut). By AI agents, Wed Nov 11 2026. No macro, syntax, notation, axiom, sorry.
-/
import Derived.Test.YtpehhinpohmpiaaChecked
import GoSem.Claim
import GoSem.ClaimJoined
import GoSem.ClaimMapViews
import Derived.JoinedTies
import Derived.KernelRfl
namespace Go.Proofs.Ytpehhinpohmpiaa
/- THE CELL 'sum', in the pinned program and in every row, IS THE sha256 OF THE DUMP (.gsa) THAT YtpehhinpohmpiaaProg.lean LOADS. Nothing in Lean hashes anything: it is a label: what it is worth is what the hold of that sum in a sandbox is worth. -/
noncomputable def Try.pinned : Pinned := { name := "ytpehhinpohmpiaa", sum := "e4a27c419c17eb4def74291e398e2decd6861776c73700abc9b41b738a53055c", checked := Try.checked }
namespace Rows
def none {H : Type} : Left H := { results := [], args := [] }

/-- 'vitrinelaw14.ErasePlays': WHATEVER THE INPUT: true; the input reads as it did. -/
def erasePlaysSpec : ChangeSpec := { name := "erasePlays", fn := fun _ => fun
  | [d1, d2, d3] => { results := [.lit (.bool true)], args := [d1, d2, d3] }
  | _ => none }
def erasePlaysRow : OpenClaim := { program := "ytpehhinpohmpiaa", sum := "e4a27c419c17eb4def74291e398e2decd6861776c73700abc9b41b738a53055c", func := "vitrine/vitrinelaw14.ErasePlays", spec := "erasePlays", unfollowed := true, recurses := true, apart := false }
def ErasePlaysSaid : Prop := erasePlaysRow.holds Try.pinned (OpenSpec.ofChange erasePlaysSpec)

/-- ITS FALSE NEIGHBOUR: 'it returns false'. Refute it at one input. -/
def erasePlaysWrong : ChangeSpec := { name := "erasePlays", fn := fun _ => fun
  | [d1, d2, d3] => { results := [.lit (.bool false)], args := [d1, d2, d3] }
  | _ => none }
def ErasePlaysWrongFalsely : Prop := erasePlaysRow.holds Try.pinned (OpenSpec.ofChange erasePlaysWrong)

/-- 'vitrinelaw14.EraseSafe': WHATEVER THE INPUT: true; the input reads as it did. -/
def eraseSafeSpec : ChangeSpec := { name := "eraseSafe", fn := fun _ => fun
  | [d1, d2, d3] => { results := [.lit (.bool true)], args := [d1, d2, d3] }
  | _ => none }
def eraseSafeRow : OpenClaim := { program := "ytpehhinpohmpiaa", sum := "e4a27c419c17eb4def74291e398e2decd6861776c73700abc9b41b738a53055c", func := "vitrine/vitrinelaw14.EraseSafe", spec := "eraseSafe", unfollowed := true, recurses := true, apart := false }
def EraseSafeSaid : Prop := eraseSafeRow.holds Try.pinned (OpenSpec.ofChange eraseSafeSpec)

/-- ITS FALSE NEIGHBOUR: 'it returns false'. Refute it at one input. -/
def eraseSafeWrong : ChangeSpec := { name := "eraseSafe", fn := fun _ => fun
  | [d1, d2, d3] => { results := [.lit (.bool false)], args := [d1, d2, d3] }
  | _ => none }
def EraseSafeWrongFalsely : Prop := eraseSafeRow.holds Try.pinned (OpenSpec.ofChange eraseSafeWrong)

/-- 'vitrinelaw14.EraseBack': WHATEVER THE INPUT: true; the input reads as it did. -/
def eraseBackSpec : ChangeSpec := { name := "eraseBack", fn := fun _ => fun
  | [d1, d2, d3, d4] => { results := [.lit (.bool true)], args := [d1, d2, d3, d4] }
  | _ => none }
def eraseBackRow : OpenClaim := { program := "ytpehhinpohmpiaa", sum := "e4a27c419c17eb4def74291e398e2decd6861776c73700abc9b41b738a53055c", func := "vitrine/vitrinelaw14.EraseBack", spec := "eraseBack", unfollowed := true, recurses := true, apart := false }
def EraseBackSaid : Prop := eraseBackRow.holds Try.pinned (OpenSpec.ofChange eraseBackSpec)

/-- ITS FALSE NEIGHBOUR: 'it returns false'. Refute it at one input. -/
def eraseBackWrong : ChangeSpec := { name := "eraseBack", fn := fun _ => fun
  | [d1, d2, d3, d4] => { results := [.lit (.bool false)], args := [d1, d2, d3, d4] }
  | _ => none }
def EraseBackWrongFalsely : Prop := eraseBackRow.holds Try.pinned (OpenSpec.ofChange eraseBackWrong)

/-- 'vitrinelaw14.EraseNulls': WHATEVER THE INPUT: true; the input reads as it did. -/
def eraseNullsSpec : ChangeSpec := { name := "eraseNulls", fn := fun _ => fun
  | [d1, d2, d3] => { results := [.lit (.bool true)], args := [d1, d2, d3] }
  | _ => none }
def eraseNullsRow : OpenClaim := { program := "ytpehhinpohmpiaa", sum := "e4a27c419c17eb4def74291e398e2decd6861776c73700abc9b41b738a53055c", func := "vitrine/vitrinelaw14.EraseNulls", spec := "eraseNulls", inPlace := ["internal/bytealg.Count", "internal/bytealg.IndexByte", "internal/bytealg.Index"], unfollowed := true, recurses := true, named := ["internal/bytealg.MaxLen"], apart := false }
def EraseNullsSaid : Prop := eraseNullsRow.holds Try.pinned (OpenSpec.ofChange eraseNullsSpec)

/-- ITS FALSE NEIGHBOUR: 'it returns false'. Refute it at one input. -/
def eraseNullsWrong : ChangeSpec := { name := "eraseNulls", fn := fun _ => fun
  | [d1, d2, d3] => { results := [.lit (.bool false)], args := [d1, d2, d3] }
  | _ => none }
def EraseNullsWrongFalsely : Prop := eraseNullsRow.holds Try.pinned (OpenSpec.ofChange eraseNullsWrong)

/-- 'vitrinelaw14.EraseNil': WHATEVER THE INPUT: true; the input reads as it did. -/
def eraseNilSpec : ChangeSpec := { name := "eraseNil", fn := fun _ => fun
  | [d1, d2, d3] => { results := [.lit (.bool true)], args := [d1, d2, d3] }
  | _ => none }
def eraseNilRow : OpenClaim := { program := "ytpehhinpohmpiaa", sum := "e4a27c419c17eb4def74291e398e2decd6861776c73700abc9b41b738a53055c", func := "vitrine/vitrinelaw14.EraseNil", spec := "eraseNil", inPlace := ["internal/bytealg.Count", "internal/bytealg.IndexByte", "internal/bytealg.Index"], unfollowed := true, recurses := true, named := ["internal/bytealg.MaxLen"], apart := false }
def EraseNilSaid : Prop := eraseNilRow.holds Try.pinned (OpenSpec.ofChange eraseNilSpec)

/-- ITS FALSE NEIGHBOUR: 'it returns false'. Refute it at one input. -/
def eraseNilWrong : ChangeSpec := { name := "eraseNil", fn := fun _ => fun
  | [d1, d2, d3] => { results := [.lit (.bool false)], args := [d1, d2, d3] }
  | _ => none }
def EraseNilWrongFalsely : Prop := eraseNilRow.holds Try.pinned (OpenSpec.ofChange eraseNilWrong)

/-- 'vitrinelaw14.EraseTwice': WHATEVER THE INPUT: true; the input reads as it did. -/
def eraseTwiceSpec : ChangeSpec := { name := "eraseTwice", fn := fun _ => fun
  | [d1, d2, d3] => { results := [.lit (.bool true)], args := [d1, d2, d3] }
  | _ => none }
def eraseTwiceRow : OpenClaim := { program := "ytpehhinpohmpiaa", sum := "e4a27c419c17eb4def74291e398e2decd6861776c73700abc9b41b738a53055c", func := "vitrine/vitrinelaw14.EraseTwice", spec := "eraseTwice", unfollowed := true, recurses := true, apart := false }
def EraseTwiceSaid : Prop := eraseTwiceRow.holds Try.pinned (OpenSpec.ofChange eraseTwiceSpec)

/-- ITS FALSE NEIGHBOUR: 'it returns false'. Refute it at one input. -/
def eraseTwiceWrong : ChangeSpec := { name := "eraseTwice", fn := fun _ => fun
  | [d1, d2, d3] => { results := [.lit (.bool false)], args := [d1, d2, d3] }
  | _ => none }
def EraseTwiceWrongFalsely : Prop := eraseTwiceRow.holds Try.pinned (OpenSpec.ofChange eraseTwiceWrong)

/-- 'vitrinelaw15.CursorPlays': WHATEVER THE INPUT: true; the input reads as it did. -/
def cursorPlaysSpec : ChangeSpec := { name := "cursorPlays", fn := fun _ => fun
  | [d1, d2, d3] => { results := [.lit (.bool true)], args := [d1, d2, d3] }
  | _ => none }
def cursorPlaysRow : OpenClaim := { program := "ytpehhinpohmpiaa", sum := "e4a27c419c17eb4def74291e398e2decd6861776c73700abc9b41b738a53055c", func := "vitrine/vitrinelaw15.CursorPlays", spec := "cursorPlays", unfollowed := true, recurses := true, apart := false }
def CursorPlaysSaid : Prop := cursorPlaysRow.holds Try.pinned (OpenSpec.ofChange cursorPlaysSpec)

/-- ITS FALSE NEIGHBOUR: 'it returns false'. Refute it at one input. -/
def cursorPlaysWrong : ChangeSpec := { name := "cursorPlays", fn := fun _ => fun
  | [d1, d2, d3] => { results := [.lit (.bool false)], args := [d1, d2, d3] }
  | _ => none }
def CursorPlaysWrongFalsely : Prop := cursorPlaysRow.holds Try.pinned (OpenSpec.ofChange cursorPlaysWrong)

/-- 'vitrinelaw15.CursorTabs': WHATEVER THE INPUT: true; the input reads as it did. -/
def cursorTabsSpec : ChangeSpec := { name := "cursorTabs", fn := fun _ => fun
  | [d1, d2, d3, d4] => { results := [.lit (.bool true)], args := [d1, d2, d3, d4] }
  | _ => none }
def cursorTabsRow : OpenClaim := { program := "ytpehhinpohmpiaa", sum := "e4a27c419c17eb4def74291e398e2decd6861776c73700abc9b41b738a53055c", func := "vitrine/vitrinelaw15.CursorTabs", spec := "cursorTabs", unfollowed := true, recurses := true, apart := false }
def CursorTabsSaid : Prop := cursorTabsRow.holds Try.pinned (OpenSpec.ofChange cursorTabsSpec)

/-- ITS FALSE NEIGHBOUR: 'it returns false'. Refute it at one input. -/
def cursorTabsWrong : ChangeSpec := { name := "cursorTabs", fn := fun _ => fun
  | [d1, d2, d3, d4] => { results := [.lit (.bool false)], args := [d1, d2, d3, d4] }
  | _ => none }
def CursorTabsWrongFalsely : Prop := cursorTabsRow.holds Try.pinned (OpenSpec.ofChange cursorTabsWrong)

/-- 'vitrinelaw15.CursorFirsts': WHATEVER THE INPUT: true; the input reads as it did. -/
def cursorFirstsSpec : ChangeSpec := { name := "cursorFirsts", fn := fun _ => fun
  | [d1, d2, d3] => { results := [.lit (.bool true)], args := [d1, d2, d3] }
  | _ => none }
def cursorFirstsRow : OpenClaim := { program := "ytpehhinpohmpiaa", sum := "e4a27c419c17eb4def74291e398e2decd6861776c73700abc9b41b738a53055c", func := "vitrine/vitrinelaw15.CursorFirsts", spec := "cursorFirsts", apart := false }
def CursorFirstsSaid : Prop := cursorFirstsRow.holds Try.pinned (OpenSpec.ofChange cursorFirstsSpec)

/-- ITS FALSE NEIGHBOUR: 'it returns false'. Refute it at one input. -/
def cursorFirstsWrong : ChangeSpec := { name := "cursorFirsts", fn := fun _ => fun
  | [d1, d2, d3] => { results := [.lit (.bool false)], args := [d1, d2, d3] }
  | _ => none }
def CursorFirstsWrongFalsely : Prop := cursorFirstsRow.holds Try.pinned (OpenSpec.ofChange cursorFirstsWrong)

/-- 'vitrinelaw15.CursorNil': WHATEVER THE INPUT: true; the input reads as it did. -/
def cursorNilSpec : ChangeSpec := { name := "cursorNil", fn := fun _ => fun
  | [d1, d2] => { results := [.lit (.bool true)], args := [d1, d2] }
  | _ => none }
def cursorNilRow : OpenClaim := { program := "ytpehhinpohmpiaa", sum := "e4a27c419c17eb4def74291e398e2decd6861776c73700abc9b41b738a53055c", func := "vitrine/vitrinelaw15.CursorNil", spec := "cursorNil", unfollowed := true, recurses := true, apart := false }
def CursorNilSaid : Prop := cursorNilRow.holds Try.pinned (OpenSpec.ofChange cursorNilSpec)

/-- ITS FALSE NEIGHBOUR: 'it returns false'. Refute it at one input. -/
def cursorNilWrong : ChangeSpec := { name := "cursorNil", fn := fun _ => fun
  | [d1, d2] => { results := [.lit (.bool false)], args := [d1, d2] }
  | _ => none }
def CursorNilWrongFalsely : Prop := cursorNilRow.holds Try.pinned (OpenSpec.ofChange cursorNilWrong)

/- THE SECOND FORM. 'bulk': how many values and letters a reading holds, each counted each time it is reached (what is shared counts as often as it is met; a slice's spare places count too). A statement '..UptoSaid' is the law's where the arguments, and the package variables that the reading takes, are together of bulk at most 1048576: NARROWER than '..Said'. Prove '..Said' where nothing that the law and all that it calls make is longer than what came in: it says more and counts as full. Else prove '..UptoSaid'. A law counts once. -/
mutual
def uptoBulk {H : Type} : DataW H → Nat
  | .lit (.string bytes) => bytes.length + 1
  | .lit _ => 1
  | .nil => 1
  | .ptr d => uptoBulk d + 1
  | .slice elems spare => uptoBulkAll elems + uptoBulkAll spare + 1
  | .agg parts => uptoBulkAll parts + 1
  | .iface _ d => uptoBulk d + 1
  | .map entries => uptoBulkEntries entries + 1
  | .held _ => 1
def uptoBulkAll {H : Type} : List (DataW H) → Nat
  | [] => 0
  | d :: r => uptoBulk d + uptoBulkAll r
def uptoBulkEntries {H : Type} : List (Lit × DataW H) → Nat
  | [] => 0
  | x :: r => uptoBulkEntry x + uptoBulkEntries r
def uptoBulkEntry {H : Type} : Lit × DataW H → Nat
  | (.string bytes, d) => bytes.length + uptoBulk d + 1
  | (_, d) => uptoBulk d + 1
 end
def uptoSmall : (H : Type) → List (DataW H) → Bool := fun _ ds => decide (uptoBulkAll ds ≤ 1048576)
def OpenSpec.upto (s : _root_.Go.ChangeSpec) : _root_.Go.OpenSpec := { _root_.Go.OpenSpec.ofChange s with cond := some uptoSmall }

/-- 'vitrinelaw14.ErasePlays', WHERE WHAT IT READS IS OF BULK AT MOST 1048576: true; the input reads as it did. -/
def erasePlaysUptoRow : OpenClaim := { program := "ytpehhinpohmpiaa", sum := "e4a27c419c17eb4def74291e398e2decd6861776c73700abc9b41b738a53055c", func := "vitrine/vitrinelaw14.ErasePlays", spec := "erasePlays", unfollowed := true, recurses := true, apart := false, narrowed := true }
def ErasePlaysUptoSaid : Prop := erasePlaysUptoRow.holds Try.pinned (OpenSpec.upto erasePlaysSpec)

/-- 'vitrinelaw14.EraseSafe', WHERE WHAT IT READS IS OF BULK AT MOST 1048576: true; the input reads as it did. -/
def eraseSafeUptoRow : OpenClaim := { program := "ytpehhinpohmpiaa", sum := "e4a27c419c17eb4def74291e398e2decd6861776c73700abc9b41b738a53055c", func := "vitrine/vitrinelaw14.EraseSafe", spec := "eraseSafe", unfollowed := true, recurses := true, apart := false, narrowed := true }
def EraseSafeUptoSaid : Prop := eraseSafeUptoRow.holds Try.pinned (OpenSpec.upto eraseSafeSpec)

/-- 'vitrinelaw14.EraseBack', WHERE WHAT IT READS IS OF BULK AT MOST 1048576: true; the input reads as it did. -/
def eraseBackUptoRow : OpenClaim := { program := "ytpehhinpohmpiaa", sum := "e4a27c419c17eb4def74291e398e2decd6861776c73700abc9b41b738a53055c", func := "vitrine/vitrinelaw14.EraseBack", spec := "eraseBack", unfollowed := true, recurses := true, apart := false, narrowed := true }
def EraseBackUptoSaid : Prop := eraseBackUptoRow.holds Try.pinned (OpenSpec.upto eraseBackSpec)

/-- 'vitrinelaw14.EraseNulls', WHERE WHAT IT READS IS OF BULK AT MOST 1048576: true; the input reads as it did. -/
def eraseNullsUptoRow : OpenClaim := { program := "ytpehhinpohmpiaa", sum := "e4a27c419c17eb4def74291e398e2decd6861776c73700abc9b41b738a53055c", func := "vitrine/vitrinelaw14.EraseNulls", spec := "eraseNulls", inPlace := ["internal/bytealg.Count", "internal/bytealg.IndexByte", "internal/bytealg.Index"], unfollowed := true, recurses := true, named := ["internal/bytealg.MaxLen"], apart := false, narrowed := true }
def EraseNullsUptoSaid : Prop := eraseNullsUptoRow.holds Try.pinned (OpenSpec.upto eraseNullsSpec)

/-- 'vitrinelaw14.EraseNil', WHERE WHAT IT READS IS OF BULK AT MOST 1048576: true; the input reads as it did. -/
def eraseNilUptoRow : OpenClaim := { program := "ytpehhinpohmpiaa", sum := "e4a27c419c17eb4def74291e398e2decd6861776c73700abc9b41b738a53055c", func := "vitrine/vitrinelaw14.EraseNil", spec := "eraseNil", inPlace := ["internal/bytealg.Count", "internal/bytealg.IndexByte", "internal/bytealg.Index"], unfollowed := true, recurses := true, named := ["internal/bytealg.MaxLen"], apart := false, narrowed := true }
def EraseNilUptoSaid : Prop := eraseNilUptoRow.holds Try.pinned (OpenSpec.upto eraseNilSpec)

/-- 'vitrinelaw14.EraseTwice', WHERE WHAT IT READS IS OF BULK AT MOST 1048576: true; the input reads as it did. -/
def eraseTwiceUptoRow : OpenClaim := { program := "ytpehhinpohmpiaa", sum := "e4a27c419c17eb4def74291e398e2decd6861776c73700abc9b41b738a53055c", func := "vitrine/vitrinelaw14.EraseTwice", spec := "eraseTwice", unfollowed := true, recurses := true, apart := false, narrowed := true }
def EraseTwiceUptoSaid : Prop := eraseTwiceUptoRow.holds Try.pinned (OpenSpec.upto eraseTwiceSpec)

/-- 'vitrinelaw15.CursorPlays', WHERE WHAT IT READS IS OF BULK AT MOST 1048576: true; the input reads as it did. -/
def cursorPlaysUptoRow : OpenClaim := { program := "ytpehhinpohmpiaa", sum := "e4a27c419c17eb4def74291e398e2decd6861776c73700abc9b41b738a53055c", func := "vitrine/vitrinelaw15.CursorPlays", spec := "cursorPlays", unfollowed := true, recurses := true, apart := false, narrowed := true }
def CursorPlaysUptoSaid : Prop := cursorPlaysUptoRow.holds Try.pinned (OpenSpec.upto cursorPlaysSpec)

/-- 'vitrinelaw15.CursorTabs', WHERE WHAT IT READS IS OF BULK AT MOST 1048576: true; the input reads as it did. -/
def cursorTabsUptoRow : OpenClaim := { program := "ytpehhinpohmpiaa", sum := "e4a27c419c17eb4def74291e398e2decd6861776c73700abc9b41b738a53055c", func := "vitrine/vitrinelaw15.CursorTabs", spec := "cursorTabs", unfollowed := true, recurses := true, apart := false, narrowed := true }
def CursorTabsUptoSaid : Prop := cursorTabsUptoRow.holds Try.pinned (OpenSpec.upto cursorTabsSpec)

/-- 'vitrinelaw15.CursorFirsts', WHERE WHAT IT READS IS OF BULK AT MOST 1048576: true; the input reads as it did. -/
def cursorFirstsUptoRow : OpenClaim := { program := "ytpehhinpohmpiaa", sum := "e4a27c419c17eb4def74291e398e2decd6861776c73700abc9b41b738a53055c", func := "vitrine/vitrinelaw15.CursorFirsts", spec := "cursorFirsts", apart := false, narrowed := true }
def CursorFirstsUptoSaid : Prop := cursorFirstsUptoRow.holds Try.pinned (OpenSpec.upto cursorFirstsSpec)

/-- 'vitrinelaw15.CursorNil', WHERE WHAT IT READS IS OF BULK AT MOST 1048576: true; the input reads as it did. -/
def cursorNilUptoRow : OpenClaim := { program := "ytpehhinpohmpiaa", sum := "e4a27c419c17eb4def74291e398e2decd6861776c73700abc9b41b738a53055c", func := "vitrine/vitrinelaw15.CursorNil", spec := "cursorNil", unfollowed := true, recurses := true, apart := false, narrowed := true }
def CursorNilUptoSaid : Prop := cursorNilUptoRow.holds Try.pinned (OpenSpec.upto cursorNilSpec)

end Rows
end Go.Proofs.Ytpehhinpohmpiaa
