/-
  No cell of these rows narrows 'for every input' (looked for: loops, veiled, ifaces, maps, wideKeys, modest, calm, conditions, laid).
  DERIVED. THE GIVEN ROWS OF THIS SEAT. 3 by the template 'for every input the law returns true; each argument reads behind the call as it read before'; 0 by the template 'total and deterministic' (their statements: YtmcopfcmnbhaaaaGreatTotals.lean).
  GIVEN WITH THE SEED: the statements are not yours to turn. If you find one false, say at which input.
  Laid BY PROGRAM, IN A SANDBOX (cutbox-rows.mjs): the forced cells as the released guide's own fill.sh prints them over the translation e0c2bb3f3ade1627… (all of the seat's roots in one cut). By AI agents, Wed Nov 11 2026. No macro, syntax, notation, axiom, sorry.
-/
import Derived.Test.YtmcopfcmnbhaaaaGreatChecked
import GoSem.Claim
import GoSem.ClaimJoined
import GoSem.ClaimMapViews
import Derived.JoinedTies
import Derived.KernelRfl
namespace Go.Proofs.YtmcopfcmnbhaaaaGreat
/- THE CELL 'sum', in the pinned program and in every row, IS THE sha256 OF THE DUMP (.gsa) THAT YtmcopfcmnbhaaaaGreatProg.lean LOADS. Nothing in Lean hashes anything: it is a label: what it is worth is what the hold of that sum in a sandbox is worth. -/
noncomputable def Tryz.pinned : Pinned := { name := "ytmcopfcmnbhaaaagreat", sum := "e0c2bb3f3ade162761f42f9a10f0d62d56e30dc706765687794b6f35bee999b2", checked := Tryz.checked }
namespace Rows
def none {H : Type} : Left H := { results := [], args := [] }

/-- 'mezzotintlaw09.CollSame': WHATEVER THE INPUT: true; the input reads as it did. -/
def collSameSpec : ChangeSpec := { name := "collSame", fn := fun _ => fun
  | [d1, d2, d3] => { results := [.lit (.bool true)], args := [d1, d2, d3] }
  | _ => none }
def collSameRow : OpenClaim := { program := "ytmcopfcmnbhaaaagreat", sum := "e0c2bb3f3ade162761f42f9a10f0d62d56e30dc706765687794b6f35bee999b2", func := "mezzotint/mezzotintlaw09.CollSame", spec := "collSame", inPlace := ["internal/bytealg.Compare", "internal/bytealg.IndexByte", "internal/bytealg.Index"], unfollowed := true, recurses := true, named := ["internal/bytealg.MaxLen"], apart := false }
def CollSameSaid : Prop := collSameRow.holds Tryz.pinned (OpenSpec.ofChange collSameSpec)

/-- ITS FALSE NEIGHBOUR: 'it returns false'. Refute it at one input. -/
def collSameWrong : ChangeSpec := { name := "collSame", fn := fun _ => fun
  | [d1, d2, d3] => { results := [.lit (.bool false)], args := [d1, d2, d3] }
  | _ => none }
def CollSameWrongFalsely : Prop := collSameRow.holds Tryz.pinned (OpenSpec.ofChange collSameWrong)

/-- 'mezzotintlaw09.CollFound': WHATEVER THE INPUT: true; the input reads as it did. -/
def collFoundSpec : ChangeSpec := { name := "collFound", fn := fun _ => fun
  | [d1, d2] => { results := [.lit (.bool true)], args := [d1, d2] }
  | _ => none }
def collFoundRow : OpenClaim := { program := "ytmcopfcmnbhaaaagreat", sum := "e0c2bb3f3ade162761f42f9a10f0d62d56e30dc706765687794b6f35bee999b2", func := "mezzotint/mezzotintlaw09.CollFound", spec := "collFound", inPlace := ["internal/bytealg.Compare", "internal/bytealg.IndexByte", "internal/bytealg.Index"], unfollowed := true, recurses := true, named := ["internal/bytealg.MaxLen"], apart := false }
def CollFoundSaid : Prop := collFoundRow.holds Tryz.pinned (OpenSpec.ofChange collFoundSpec)

/-- ITS FALSE NEIGHBOUR: 'it returns false'. Refute it at one input. -/
def collFoundWrong : ChangeSpec := { name := "collFound", fn := fun _ => fun
  | [d1, d2] => { results := [.lit (.bool false)], args := [d1, d2] }
  | _ => none }
def CollFoundWrongFalsely : Prop := collFoundRow.holds Tryz.pinned (OpenSpec.ofChange collFoundWrong)

/-- 'mezzotintlaw09.CollMoves': WHATEVER THE INPUT: true; the input reads as it did. -/
def collMovesSpec : ChangeSpec := { name := "collMoves", fn := fun _ => fun
  | [d1, d2, d3, d4] => { results := [.lit (.bool true)], args := [d1, d2, d3, d4] }
  | _ => none }
def collMovesRow : OpenClaim := { program := "ytmcopfcmnbhaaaagreat", sum := "e0c2bb3f3ade162761f42f9a10f0d62d56e30dc706765687794b6f35bee999b2", func := "mezzotint/mezzotintlaw09.CollMoves", spec := "collMoves", inPlace := ["internal/bytealg.Compare", "internal/bytealg.IndexByte", "internal/bytealg.Index"], unfollowed := true, recurses := true, named := ["internal/bytealg.MaxLen"], apart := false }
def CollMovesSaid : Prop := collMovesRow.holds Tryz.pinned (OpenSpec.ofChange collMovesSpec)

/-- ITS FALSE NEIGHBOUR: 'it returns false'. Refute it at one input. -/
def collMovesWrong : ChangeSpec := { name := "collMoves", fn := fun _ => fun
  | [d1, d2, d3, d4] => { results := [.lit (.bool false)], args := [d1, d2, d3, d4] }
  | _ => none }
def CollMovesWrongFalsely : Prop := collMovesRow.holds Tryz.pinned (OpenSpec.ofChange collMovesWrong)

/- THE SECOND FORM. 'bulk': how many values and letters a reading holds, each counted each time it is reached (what is shared counts as often as it is met; a slice's spare places count too). A statement '..UptoSaid' is the law's where the arguments, and the package variables that the reading takes, are together of bulk at most 1048576: NARROWER than '..Said'. Prove '..Said' where nothing that the law and all that it calls make is longer than what came in: it says more and counts as full. Else prove '..UptoSaid'. A law counts once. -/
mutual
def uptoBulk {H : Type} : DataW H → Nat
  | .lit (.string bytes) => bytes.length + 1
  | .lit _ => 1
  | .nil => 1
  | .ptr d => uptoBulk d + 1
  | .slice elems spare => uptoBulkAll elems + uptoBulkAll spare + 1
  | .agg parts => uptoBulkAll parts + 1
  | .iface _ d => uptoBulk d + 1
  | .map entries => uptoBulkEntries entries + 1
  | .held _ => 1
def uptoBulkAll {H : Type} : List (DataW H) → Nat
  | [] => 0
  | d :: r => uptoBulk d + uptoBulkAll r
def uptoBulkEntries {H : Type} : List (Lit × DataW H) → Nat
  | [] => 0
  | x :: r => uptoBulkEntry x + uptoBulkEntries r
def uptoBulkEntry {H : Type} : Lit × DataW H → Nat
  | (.string bytes, d) => bytes.length + uptoBulk d + 1
  | (_, d) => uptoBulk d + 1
 end
def uptoSmall : (H : Type) → List (DataW H) → Bool := fun _ ds => decide (uptoBulkAll ds ≤ 1048576)
def OpenSpec.upto (s : _root_.Go.ChangeSpec) : _root_.Go.OpenSpec := { _root_.Go.OpenSpec.ofChange s with cond := some uptoSmall }

/-- 'mezzotintlaw09.CollSame', WHERE WHAT IT READS IS OF BULK AT MOST 1048576: true; the input reads as it did. -/
def collSameUptoRow : OpenClaim := { program := "ytmcopfcmnbhaaaagreat", sum := "e0c2bb3f3ade162761f42f9a10f0d62d56e30dc706765687794b6f35bee999b2", func := "mezzotint/mezzotintlaw09.CollSame", spec := "collSame", inPlace := ["internal/bytealg.Compare", "internal/bytealg.IndexByte", "internal/bytealg.Index"], unfollowed := true, recurses := true, named := ["internal/bytealg.MaxLen"], apart := false, narrowed := true }
def CollSameUptoSaid : Prop := collSameUptoRow.holds Tryz.pinned (OpenSpec.upto collSameSpec)

/-- 'mezzotintlaw09.CollFound', WHERE WHAT IT READS IS OF BULK AT MOST 1048576: true; the input reads as it did. -/
def collFoundUptoRow : OpenClaim := { program := "ytmcopfcmnbhaaaagreat", sum := "e0c2bb3f3ade162761f42f9a10f0d62d56e30dc706765687794b6f35bee999b2", func := "mezzotint/mezzotintlaw09.CollFound", spec := "collFound", inPlace := ["internal/bytealg.Compare", "internal/bytealg.IndexByte", "internal/bytealg.Index"], unfollowed := true, recurses := true, named := ["internal/bytealg.MaxLen"], apart := false, narrowed := true }
def CollFoundUptoSaid : Prop := collFoundUptoRow.holds Tryz.pinned (OpenSpec.upto collFoundSpec)

/-- 'mezzotintlaw09.CollMoves', WHERE WHAT IT READS IS OF BULK AT MOST 1048576: true; the input reads as it did. -/
def collMovesUptoRow : OpenClaim := { program := "ytmcopfcmnbhaaaagreat", sum := "e0c2bb3f3ade162761f42f9a10f0d62d56e30dc706765687794b6f35bee999b2", func := "mezzotint/mezzotintlaw09.CollMoves", spec := "collMoves", inPlace := ["internal/bytealg.Compare", "internal/bytealg.IndexByte", "internal/bytealg.Index"], unfollowed := true, recurses := true, named := ["internal/bytealg.MaxLen"], apart := false, narrowed := true }
def CollMovesUptoSaid : Prop := collMovesUptoRow.holds Tryz.pinned (OpenSpec.upto collMovesSpec)

end Rows
end Go.Proofs.YtmcopfcmnbhaaaaGreat
