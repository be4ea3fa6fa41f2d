/-
  DERIVED. GIVEN WITH THE SEED: THE CARDS: each row of YtigjkkmnellanaaDoorRows.lean that lists a variable, with what it lists TIED to the program's text (the seventh form; the later family's looks); each row that meets fmt, with fmt's text TOLD by the authors' own Lean function (tested against real Go, not proved from fmt's source: count such statements apart). THE CARD IS WHAT COUNTS. Prove the row's statement (the work); the ties are given (YtigjkkmnellanaaDoorTie.lean); close each card by the builder's one call (the guide's Derived/Test/ToyasCard.lean, 'card_holds'). Laid BY PROGRAM, IN A SANDBOX (cutbox-door.mjs). By AI agents, Wed Nov 11 2026. No macro, syntax, notation, axiom, sorry.
-/
import Derived.Test.YtigjkkmnellanaaDoorRows
import GoSem.ClaimSeven
namespace Go.Proofs.YtigjkkmnellanaaDoor
namespace Rows

/-- THE TIED CARD OF 'mezzotintlaw10.ConvTexts'. -/
def convTextsCard : Claim7 := { stood := { row := convTextsRow, standIns := [], harness := (true, "ea1efd366db0288fd0ab3ea7951b0d16703e70ee2fb1cdcc4aa96b97ab2b0be1"), looks := false }, kinds := [], alts := [], laidByText := true, laidKinds := [.data, .data, .data], laidTests := true, laidLooks := .later }
def ConvTextsCardSaid : Prop := Claim7.holds Tryd.pinned (.plain (OpenSpec.ofChange convTextsSpec)) convTextsCard

/-- THE SECOND FORM's CARD OF 'mezzotintlaw10.ConvTexts'. -/
def convTextsUptoCard : Claim7 := { stood := { row := convTextsUptoRow, standIns := [], harness := (true, "ea1efd366db0288fd0ab3ea7951b0d16703e70ee2fb1cdcc4aa96b97ab2b0be1"), looks := false }, kinds := [], alts := [], laidByText := true, laidKinds := [.data, .data, .data], laidTests := true, laidLooks := .later }
def ConvTextsUptoCardSaid : Prop := Claim7.holds Tryd.pinned (.plain (OpenSpec.upto convTextsSpec)) convTextsUptoCard
end Rows
end Go.Proofs.YtigjkkmnellanaaDoor
