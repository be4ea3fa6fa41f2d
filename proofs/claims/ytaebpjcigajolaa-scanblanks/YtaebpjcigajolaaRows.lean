/-
  No cell of these rows narrows 'for every input' (looked for: loops, veiled, ifaces, maps, wideKeys, modest, calm, conditions, laid).
  DERIVED. THE GIVEN ROWS OF THIS SEAT. 6 by the template 'for every input the law returns true; each argument reads behind the call as it read before'; 0 by the template 'total and deterministic' (their statements: YtaebpjcigajolaaTotals.lean).
  GIVEN WITH THE SEED: the statements are not yours to turn. If you find one false, say at which input.
  Laid BY PROGRAM, IN A SANDBOX (cutbox-rows.mjs): the forced cells as the released guide's own fill.sh prints them over the translation 6c16809e3b7057ff… (all of the seat's roots in one cut). By AI agents, Wed Nov 11 2026. No macro, syntax, notation, axiom, sorry.
-/
import Derived.Test.YtaebpjcigajolaaChecked
import GoSem.Claim
import GoSem.ClaimJoined
import GoSem.ClaimMapViews
import Derived.JoinedTies
import Derived.KernelRfl
namespace Go.Proofs.Ytaebpjcigajolaa
/- THE CELL 'sum', in the pinned program and in every row, IS THE sha256 OF THE DUMP (.gsa) THAT YtaebpjcigajolaaProg.lean LOADS. Nothing in Lean hashes anything: it is a label: what it is worth is what the hold of that sum in a sandbox is worth. -/
noncomputable def Try.pinned : Pinned := { name := "ytaebpjcigajolaa", sum := "6c16809e3b7057ffc6019d185b6f0d3d5c81faa87ca690027eabe916ad5c02e0", checked := Try.checked }
namespace Rows
def none {H : Type} : Left H := { results := [], args := [] }

/-- 'mezzotintlaw04.ScanNext': WHATEVER THE INPUT: true; the input reads as it did. -/
def scanNextSpec : ChangeSpec := { name := "scanNext", fn := fun _ => fun
  | [d1, d2] => { results := [.lit (.bool true)], args := [d1, d2] }
  | _ => none }
def scanNextRow : OpenClaim := { program := "ytaebpjcigajolaa", sum := "6c16809e3b7057ffc6019d185b6f0d3d5c81faa87ca690027eabe916ad5c02e0", func := "mezzotint/mezzotintlaw04.ScanNext", spec := "scanNext", inPlace := ["internal/bytealg.IndexByteString", "internal/bytealg.IndexString"], unfollowed := true, recurses := true, named := ["internal/bytealg.MaxLen"], apart := false }
def ScanNextSaid : Prop := scanNextRow.holds Try.pinned (OpenSpec.ofChange scanNextSpec)

/-- ITS FALSE NEIGHBOUR: 'it returns false'. Refute it at one input. -/
def scanNextWrong : ChangeSpec := { name := "scanNext", fn := fun _ => fun
  | [d1, d2] => { results := [.lit (.bool false)], args := [d1, d2] }
  | _ => none }
def ScanNextWrongFalsely : Prop := scanNextRow.holds Try.pinned (OpenSpec.ofChange scanNextWrong)

/-- 'mezzotintlaw04.ScanAll': WHATEVER THE INPUT: true; the input reads as it did. -/
def scanAllSpec : ChangeSpec := { name := "scanAll", fn := fun _ => fun
  | [d] => { results := [.lit (.bool true)], args := [d] }
  | _ => none }
def scanAllRow : OpenClaim := { program := "ytaebpjcigajolaa", sum := "6c16809e3b7057ffc6019d185b6f0d3d5c81faa87ca690027eabe916ad5c02e0", func := "mezzotint/mezzotintlaw04.ScanAll", spec := "scanAll", inPlace := ["internal/bytealg.IndexByteString", "internal/bytealg.IndexString"], unfollowed := true, recurses := true, named := ["internal/bytealg.MaxLen"], apart := false }
def ScanAllSaid : Prop := scanAllRow.holds Try.pinned (OpenSpec.ofChange scanAllSpec)

/-- ITS FALSE NEIGHBOUR: 'it returns false'. Refute it at one input. -/
def scanAllWrong : ChangeSpec := { name := "scanAll", fn := fun _ => fun
  | [d] => { results := [.lit (.bool false)], args := [d] }
  | _ => none }
def ScanAllWrongFalsely : Prop := scanAllRow.holds Try.pinned (OpenSpec.ofChange scanAllWrong)

/-- 'mezzotintlaw04.ScanStructure': WHATEVER THE INPUT: true; the input reads as it did. -/
def scanStructureSpec : ChangeSpec := { name := "scanStructure", fn := fun _ => fun
  | [d] => { results := [.lit (.bool true)], args := [d] }
  | _ => none }
def scanStructureRow : OpenClaim := { program := "ytaebpjcigajolaa", sum := "6c16809e3b7057ffc6019d185b6f0d3d5c81faa87ca690027eabe916ad5c02e0", func := "mezzotint/mezzotintlaw04.ScanStructure", spec := "scanStructure", inPlace := ["internal/bytealg.IndexByteString", "internal/bytealg.IndexString"], unfollowed := true, recurses := true, named := ["internal/bytealg.MaxLen"], apart := false }
def ScanStructureSaid : Prop := scanStructureRow.holds Try.pinned (OpenSpec.ofChange scanStructureSpec)

/-- ITS FALSE NEIGHBOUR: 'it returns false'. Refute it at one input. -/
def scanStructureWrong : ChangeSpec := { name := "scanStructure", fn := fun _ => fun
  | [d] => { results := [.lit (.bool false)], args := [d] }
  | _ => none }
def ScanStructureWrongFalsely : Prop := scanStructureRow.holds Try.pinned (OpenSpec.ofChange scanStructureWrong)

/-- 'mezzotintlaw04.ScanStrings': WHATEVER THE INPUT: true; the input reads as it did. -/
def scanStringsSpec : ChangeSpec := { name := "scanStrings", fn := fun _ => fun
  | [d1, d2] => { results := [.lit (.bool true)], args := [d1, d2] }
  | _ => none }
def scanStringsRow : OpenClaim := { program := "ytaebpjcigajolaa", sum := "6c16809e3b7057ffc6019d185b6f0d3d5c81faa87ca690027eabe916ad5c02e0", func := "mezzotint/mezzotintlaw04.ScanStrings", spec := "scanStrings", inPlace := ["internal/bytealg.IndexByteString", "internal/bytealg.IndexString"], unfollowed := true, recurses := true, named := ["internal/bytealg.MaxLen"], apart := false }
def ScanStringsSaid : Prop := scanStringsRow.holds Try.pinned (OpenSpec.ofChange scanStringsSpec)

/-- ITS FALSE NEIGHBOUR: 'it returns false'. Refute it at one input. -/
def scanStringsWrong : ChangeSpec := { name := "scanStrings", fn := fun _ => fun
  | [d1, d2] => { results := [.lit (.bool false)], args := [d1, d2] }
  | _ => none }
def ScanStringsWrongFalsely : Prop := scanStringsRow.holds Try.pinned (OpenSpec.ofChange scanStringsWrong)

/-- 'mezzotintlaw04.ScanNested': WHATEVER THE INPUT: true; the input reads as it did. -/
def scanNestedSpec : ChangeSpec := { name := "scanNested", fn := fun _ => fun
  | [d1, d2] => { results := [.lit (.bool true)], args := [d1, d2] }
  | _ => none }
def scanNestedRow : OpenClaim := { program := "ytaebpjcigajolaa", sum := "6c16809e3b7057ffc6019d185b6f0d3d5c81faa87ca690027eabe916ad5c02e0", func := "mezzotint/mezzotintlaw04.ScanNested", spec := "scanNested", inPlace := ["internal/bytealg.IndexByteString", "internal/bytealg.IndexString"], unfollowed := true, recurses := true, named := ["internal/bytealg.MaxLen"], apart := false }
def ScanNestedSaid : Prop := scanNestedRow.holds Try.pinned (OpenSpec.ofChange scanNestedSpec)

/-- ITS FALSE NEIGHBOUR: 'it returns false'. Refute it at one input. -/
def scanNestedWrong : ChangeSpec := { name := "scanNested", fn := fun _ => fun
  | [d1, d2] => { results := [.lit (.bool false)], args := [d1, d2] }
  | _ => none }
def ScanNestedWrongFalsely : Prop := scanNestedRow.holds Try.pinned (OpenSpec.ofChange scanNestedWrong)

/-- 'mezzotintlaw04.ScanBlanks': WHATEVER THE INPUT: true; the input reads as it did. -/
def scanBlanksSpec : ChangeSpec := { name := "scanBlanks", fn := fun _ => fun
  | [d1, d2] => { results := [.lit (.bool true)], args := [d1, d2] }
  | _ => none }
def scanBlanksRow : OpenClaim := { program := "ytaebpjcigajolaa", sum := "6c16809e3b7057ffc6019d185b6f0d3d5c81faa87ca690027eabe916ad5c02e0", func := "mezzotint/mezzotintlaw04.ScanBlanks", spec := "scanBlanks", inPlace := ["internal/bytealg.IndexByteString", "internal/bytealg.IndexString"], unfollowed := true, recurses := true, named := ["internal/bytealg.MaxLen"], apart := false }
def ScanBlanksSaid : Prop := scanBlanksRow.holds Try.pinned (OpenSpec.ofChange scanBlanksSpec)

/-- ITS FALSE NEIGHBOUR: 'it returns false'. Refute it at one input. -/
def scanBlanksWrong : ChangeSpec := { name := "scanBlanks", fn := fun _ => fun
  | [d1, d2] => { results := [.lit (.bool false)], args := [d1, d2] }
  | _ => none }
def ScanBlanksWrongFalsely : Prop := scanBlanksRow.holds Try.pinned (OpenSpec.ofChange scanBlanksWrong)

/- THE SECOND FORM. 'bulk': how many values and letters a reading holds, each counted each time it is reached (what is shared counts as often as it is met; a slice's spare places count too). A statement '..UptoSaid' is the law's where the arguments, and the package variables that the reading takes, are together of bulk at most 1048576: NARROWER than '..Said'. Prove '..Said' where nothing that the law and all that it calls make is longer than what came in: it says more and counts as full. Else prove '..UptoSaid'. A law counts once. -/
mutual
def uptoBulk {H : Type} : DataW H → Nat
  | .lit (.string bytes) => bytes.length + 1
  | .lit _ => 1
  | .nil => 1
  | .ptr d => uptoBulk d + 1
  | .slice elems spare => uptoBulkAll elems + uptoBulkAll spare + 1
  | .agg parts => uptoBulkAll parts + 1
  | .iface _ d => uptoBulk d + 1
  | .map entries => uptoBulkEntries entries + 1
  | .held _ => 1
def uptoBulkAll {H : Type} : List (DataW H) → Nat
  | [] => 0
  | d :: r => uptoBulk d + uptoBulkAll r
def uptoBulkEntries {H : Type} : List (Lit × DataW H) → Nat
  | [] => 0
  | x :: r => uptoBulkEntry x + uptoBulkEntries r
def uptoBulkEntry {H : Type} : Lit × DataW H → Nat
  | (.string bytes, d) => bytes.length + uptoBulk d + 1
  | (_, d) => uptoBulk d + 1
 end
def uptoSmall : (H : Type) → List (DataW H) → Bool := fun _ ds => decide (uptoBulkAll ds ≤ 1048576)
def OpenSpec.upto (s : _root_.Go.ChangeSpec) : _root_.Go.OpenSpec := { _root_.Go.OpenSpec.ofChange s with cond := some uptoSmall }

/-- 'mezzotintlaw04.ScanNext', WHERE WHAT IT READS IS OF BULK AT MOST 1048576: true; the input reads as it did. -/
def scanNextUptoRow : OpenClaim := { program := "ytaebpjcigajolaa", sum := "6c16809e3b7057ffc6019d185b6f0d3d5c81faa87ca690027eabe916ad5c02e0", func := "mezzotint/mezzotintlaw04.ScanNext", spec := "scanNext", inPlace := ["internal/bytealg.IndexByteString", "internal/bytealg.IndexString"], unfollowed := true, recurses := true, named := ["internal/bytealg.MaxLen"], apart := false, narrowed := true }
def ScanNextUptoSaid : Prop := scanNextUptoRow.holds Try.pinned (OpenSpec.upto scanNextSpec)

/-- 'mezzotintlaw04.ScanAll', WHERE WHAT IT READS IS OF BULK AT MOST 1048576: true; the input reads as it did. -/
def scanAllUptoRow : OpenClaim := { program := "ytaebpjcigajolaa", sum := "6c16809e3b7057ffc6019d185b6f0d3d5c81faa87ca690027eabe916ad5c02e0", func := "mezzotint/mezzotintlaw04.ScanAll", spec := "scanAll", inPlace := ["internal/bytealg.IndexByteString", "internal/bytealg.IndexString"], unfollowed := true, recurses := true, named := ["internal/bytealg.MaxLen"], apart := false, narrowed := true }
def ScanAllUptoSaid : Prop := scanAllUptoRow.holds Try.pinned (OpenSpec.upto scanAllSpec)

/-- 'mezzotintlaw04.ScanStructure', WHERE WHAT IT READS IS OF BULK AT MOST 1048576: true; the input reads as it did. -/
def scanStructureUptoRow : OpenClaim := { program := "ytaebpjcigajolaa", sum := "6c16809e3b7057ffc6019d185b6f0d3d5c81faa87ca690027eabe916ad5c02e0", func := "mezzotint/mezzotintlaw04.ScanStructure", spec := "scanStructure", inPlace := ["internal/bytealg.IndexByteString", "internal/bytealg.IndexString"], unfollowed := true, recurses := true, named := ["internal/bytealg.MaxLen"], apart := false, narrowed := true }
def ScanStructureUptoSaid : Prop := scanStructureUptoRow.holds Try.pinned (OpenSpec.upto scanStructureSpec)

/-- 'mezzotintlaw04.ScanStrings', WHERE WHAT IT READS IS OF BULK AT MOST 1048576: true; the input reads as it did. -/
def scanStringsUptoRow : OpenClaim := { program := "ytaebpjcigajolaa", sum := "6c16809e3b7057ffc6019d185b6f0d3d5c81faa87ca690027eabe916ad5c02e0", func := "mezzotint/mezzotintlaw04.ScanStrings", spec := "scanStrings", inPlace := ["internal/bytealg.IndexByteString", "internal/bytealg.IndexString"], unfollowed := true, recurses := true, named := ["internal/bytealg.MaxLen"], apart := false, narrowed := true }
def ScanStringsUptoSaid : Prop := scanStringsUptoRow.holds Try.pinned (OpenSpec.upto scanStringsSpec)

/-- 'mezzotintlaw04.ScanNested', WHERE WHAT IT READS IS OF BULK AT MOST 1048576: true; the input reads as it did. -/
def scanNestedUptoRow : OpenClaim := { program := "ytaebpjcigajolaa", sum := "6c16809e3b7057ffc6019d185b6f0d3d5c81faa87ca690027eabe916ad5c02e0", func := "mezzotint/mezzotintlaw04.ScanNested", spec := "scanNested", inPlace := ["internal/bytealg.IndexByteString", "internal/bytealg.IndexString"], unfollowed := true, recurses := true, named := ["internal/bytealg.MaxLen"], apart := false, narrowed := true }
def ScanNestedUptoSaid : Prop := scanNestedUptoRow.holds Try.pinned (OpenSpec.upto scanNestedSpec)

/-- 'mezzotintlaw04.ScanBlanks', WHERE WHAT IT READS IS OF BULK AT MOST 1048576: true; the input reads as it did. -/
def scanBlanksUptoRow : OpenClaim := { program := "ytaebpjcigajolaa", sum := "6c16809e3b7057ffc6019d185b6f0d3d5c81faa87ca690027eabe916ad5c02e0", func := "mezzotint/mezzotintlaw04.ScanBlanks", spec := "scanBlanks", inPlace := ["internal/bytealg.IndexByteString", "internal/bytealg.IndexString"], unfollowed := true, recurses := true, named := ["internal/bytealg.MaxLen"], apart := false, narrowed := true }
def ScanBlanksUptoSaid : Prop := scanBlanksUptoRow.holds Try.pinned (OpenSpec.upto scanBlanksSpec)

end Rows
end Go.Proofs.Ytaebpjcigajolaa
