/-
  DERIVED. GIVEN WITH THE SEED: THE CARDS: each row of YtibkgkjijhcnoaaDoorRows.lean that lists a variable, with what it lists TIED to the program's text (the seventh form; the later family's looks); each row that meets fmt, with fmt's text TOLD by the authors' own Lean function (tested against real Go, not proved from fmt's source: count such statements apart). THE CARD IS WHAT COUNTS. Prove the row's statement (the work); the ties are given (YtibkgkjijhcnoaaDoorTie.lean); close each card by the builder's one call (the guide's Derived/Test/ToyasCard.lean, 'card_holds'). Laid BY PROGRAM, IN A SANDBOX (cutbox-door.mjs). By AI agents, Wed Nov 11 2026. No macro, syntax, notation, axiom, sorry.
-/
import Derived.Test.YtibkgkjijhcnoaaDoorRows
import GoSem.ClaimSeven
namespace Go.Proofs.YtibkgkjijhcnoaaDoor
namespace Rows

/-- THE TIED CARD OF 'mezzotintlaw02.DecPrints'. -/
def decPrintsCard : Claim7 := { stood := { row := decPrintsRow, standIns := [], harness := (true, "ad3983ae6d3f441fe75d3717ed7390bef353970974c111bc287b930a752f5f1c"), looks := false }, kinds := [], alts := [], laidByText := true, laidKinds := [.data, .data, .data], laidTests := true, laidLooks := .later }
def DecPrintsCardSaid : Prop := Claim7.holds Tryd.pinned (.plain (OpenSpec.ofChange decPrintsSpec)) decPrintsCard

/-- THE TIED CARD OF 'mezzotintlaw02.DecParses'. -/
def decParsesCard : Claim7 := { stood := { row := decParsesRow, standIns := [], harness := (true, "ad3983ae6d3f441fe75d3717ed7390bef353970974c111bc287b930a752f5f1c"), looks := false }, kinds := [], alts := [], laidByText := true, laidKinds := [.data, .data, .data], laidTests := true, laidLooks := .later }
def DecParsesCardSaid : Prop := Claim7.holds Tryd.pinned (.plain (OpenSpec.ofChange decParsesSpec)) decParsesCard

/-- THE TIED CARD OF 'mezzotintlaw02.DecTokens'. -/
def decTokensCard : Claim7 := { stood := { row := decTokensRow, standIns := [], harness := (true, "ad3983ae6d3f441fe75d3717ed7390bef353970974c111bc287b930a752f5f1c"), looks := false }, kinds := [], alts := [], laidByText := true, laidKinds := [.data, .data, .data], laidTests := true, laidLooks := .later }
def DecTokensCardSaid : Prop := Claim7.holds Tryd.pinned (.plain (OpenSpec.ofChange decTokensSpec)) decTokensCard

/-- THE TIED CARD OF 'mezzotintlaw02.DecBack'. -/
def decBackCard : Claim7 := { stood := { row := decBackRow, standIns := [], harness := (true, "ad3983ae6d3f441fe75d3717ed7390bef353970974c111bc287b930a752f5f1c"), looks := false }, kinds := [], alts := [], laidByText := true, laidKinds := [.data, .data, .data], laidTests := true, laidLooks := .later }
def DecBackCardSaid : Prop := Claim7.holds Tryd.pinned (.plain (OpenSpec.ofChange decBackSpec)) decBackCard

/-- THE TIED CARD OF 'mezzotintlaw02.DecRadix'. -/
def decRadixCard : Claim7 := { stood := { row := decRadixRow, standIns := [], harness := (true, "ad3983ae6d3f441fe75d3717ed7390bef353970974c111bc287b930a752f5f1c"), looks := false }, kinds := [], alts := [], laidByText := true, laidKinds := [.data, .data, .data], laidTests := true, laidLooks := .later }
def DecRadixCardSaid : Prop := Claim7.holds Tryd.pinned (.plain (OpenSpec.ofChange decRadixSpec)) decRadixCard

/-- THE TIED CARD OF 'mezzotintlaw02.DecPowers'. -/
def decPowersCard : Claim7 := { stood := { row := decPowersRow, standIns := [], harness := (true, "ad3983ae6d3f441fe75d3717ed7390bef353970974c111bc287b930a752f5f1c"), looks := false }, kinds := [], alts := [], laidByText := true, laidKinds := [.data, .data, .data], laidTests := true, laidLooks := .later }
def DecPowersCardSaid : Prop := Claim7.holds Tryd.pinned (.plain (OpenSpec.ofChange decPowersSpec)) decPowersCard

/-- THE SECOND FORM's CARD OF 'mezzotintlaw02.DecPrints'. -/
def decPrintsUptoCard : Claim7 := { stood := { row := decPrintsUptoRow, standIns := [], harness := (true, "ad3983ae6d3f441fe75d3717ed7390bef353970974c111bc287b930a752f5f1c"), looks := false }, kinds := [], alts := [], laidByText := true, laidKinds := [.data, .data, .data], laidTests := true, laidLooks := .later }
def DecPrintsUptoCardSaid : Prop := Claim7.holds Tryd.pinned (.plain (OpenSpec.upto decPrintsSpec)) decPrintsUptoCard

/-- THE SECOND FORM's CARD OF 'mezzotintlaw02.DecParses'. -/
def decParsesUptoCard : Claim7 := { stood := { row := decParsesUptoRow, standIns := [], harness := (true, "ad3983ae6d3f441fe75d3717ed7390bef353970974c111bc287b930a752f5f1c"), looks := false }, kinds := [], alts := [], laidByText := true, laidKinds := [.data, .data, .data], laidTests := true, laidLooks := .later }
def DecParsesUptoCardSaid : Prop := Claim7.holds Tryd.pinned (.plain (OpenSpec.upto decParsesSpec)) decParsesUptoCard

/-- THE SECOND FORM's CARD OF 'mezzotintlaw02.DecTokens'. -/
def decTokensUptoCard : Claim7 := { stood := { row := decTokensUptoRow, standIns := [], harness := (true, "ad3983ae6d3f441fe75d3717ed7390bef353970974c111bc287b930a752f5f1c"), looks := false }, kinds := [], alts := [], laidByText := true, laidKinds := [.data, .data, .data], laidTests := true, laidLooks := .later }
def DecTokensUptoCardSaid : Prop := Claim7.holds Tryd.pinned (.plain (OpenSpec.upto decTokensSpec)) decTokensUptoCard

/-- THE SECOND FORM's CARD OF 'mezzotintlaw02.DecBack'. -/
def decBackUptoCard : Claim7 := { stood := { row := decBackUptoRow, standIns := [], harness := (true, "ad3983ae6d3f441fe75d3717ed7390bef353970974c111bc287b930a752f5f1c"), looks := false }, kinds := [], alts := [], laidByText := true, laidKinds := [.data, .data, .data], laidTests := true, laidLooks := .later }
def DecBackUptoCardSaid : Prop := Claim7.holds Tryd.pinned (.plain (OpenSpec.upto decBackSpec)) decBackUptoCard

/-- THE SECOND FORM's CARD OF 'mezzotintlaw02.DecRadix'. -/
def decRadixUptoCard : Claim7 := { stood := { row := decRadixUptoRow, standIns := [], harness := (true, "ad3983ae6d3f441fe75d3717ed7390bef353970974c111bc287b930a752f5f1c"), looks := false }, kinds := [], alts := [], laidByText := true, laidKinds := [.data, .data, .data], laidTests := true, laidLooks := .later }
def DecRadixUptoCardSaid : Prop := Claim7.holds Tryd.pinned (.plain (OpenSpec.upto decRadixSpec)) decRadixUptoCard

/-- THE SECOND FORM's CARD OF 'mezzotintlaw02.DecPowers'. -/
def decPowersUptoCard : Claim7 := { stood := { row := decPowersUptoRow, standIns := [], harness := (true, "ad3983ae6d3f441fe75d3717ed7390bef353970974c111bc287b930a752f5f1c"), looks := false }, kinds := [], alts := [], laidByText := true, laidKinds := [.data, .data, .data], laidTests := true, laidLooks := .later }
def DecPowersUptoCardSaid : Prop := Claim7.holds Tryd.pinned (.plain (OpenSpec.upto decPowersSpec)) decPowersUptoCard
end Rows
end Go.Proofs.YtibkgkjijhcnoaaDoor
