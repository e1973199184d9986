/-
  DERIVED. GIVEN WITH THE SEED: THE CARDS: each row of YtcegkagfpjdidaaGreatDoorRows.lean that lists a variable, with what it lists TIED to the program's text (the seventh form; the later family's looks); each row that meets fmt, with fmt's text TOLD by the authors' own Lean function (tested against real Go, not proved from fmt's source: count such statements apart). THE CARD IS WHAT COUNTS. Prove the row's statement (the work); the ties are given (YtcegkagfpjdidaaGreatDoorTie.lean); close each card by the builder's one call (the guide's Derived/Test/ToyasCard.lean, 'card_holds'). Laid BY PROGRAM, IN A SANDBOX (cutbox-door.mjs). By AI agents, Wed Nov 11 2026. No macro, syntax, notation, axiom, sorry.
-/
import Derived.Test.YtcegkagfpjdidaaGreatDoorRows
import GoSem.ClaimSeven
namespace Go.Proofs.YtcegkagfpjdidaaGreatDoor
namespace Rows

/-- THE TIED CARD OF 'dovetaillaw05.IsacheckNames'. -/
def isacheckNamesCard : Claim7 := { stood := { row := isacheckNamesRow, standIns := [], harness := (true, "c0222b0625535a333b83743e25f36ba365bc9e2ab7878332f52d8e5c922391d4"), looks := false }, kinds := [], alts := [], laidByText := true, laidKinds := [.data, .pinned], laidTests := true, laidLooks := .later }
def IsacheckNamesCardSaid : Prop := Claim7.holds Tryz.pinned (.plain (OpenSpec.ofChange isacheckNamesSpec)) isacheckNamesCard

/-- THE TIED CARD OF 'dovetaillaw05.IsacheckShipped'. -/
def isacheckShippedCard : Claim7 := { stood := { row := isacheckShippedRow, standIns := [], harness := (true, "c0222b0625535a333b83743e25f36ba365bc9e2ab7878332f52d8e5c922391d4"), looks := false }, kinds := [], alts := [], laidByText := true, laidKinds := [.data, .pinned], laidTests := true, laidLooks := .later }
def IsacheckShippedCardSaid : Prop := Claim7.holds Tryz.pinned (.plain (OpenSpec.ofChange isacheckShippedSpec)) isacheckShippedCard

/-- THE TIED CARD OF 'dovetaillaw05.IsacheckWidths'. -/
def isacheckWidthsCard : Claim7 := { stood := { row := isacheckWidthsRow, standIns := [], harness := (true, "c0222b0625535a333b83743e25f36ba365bc9e2ab7878332f52d8e5c922391d4"), looks := false }, kinds := [], alts := [], laidByText := true, laidKinds := [.data, .pinned], laidTests := true, laidLooks := .later }
def IsacheckWidthsCardSaid : Prop := Claim7.holds Tryz.pinned (.plain (OpenSpec.ofChange isacheckWidthsSpec)) isacheckWidthsCard

/-- THE SECOND FORM's CARD OF 'dovetaillaw05.IsacheckNames'. -/
def isacheckNamesUptoCard : Claim7 := { stood := { row := isacheckNamesUptoRow, standIns := [], harness := (true, "c0222b0625535a333b83743e25f36ba365bc9e2ab7878332f52d8e5c922391d4"), looks := false }, kinds := [], alts := [], laidByText := true, laidKinds := [.data, .pinned], laidTests := true, laidLooks := .later }
def IsacheckNamesUptoCardSaid : Prop := Claim7.holds Tryz.pinned (.plain (OpenSpec.upto isacheckNamesSpec)) isacheckNamesUptoCard

/-- THE SECOND FORM's CARD OF 'dovetaillaw05.IsacheckShipped'. -/
def isacheckShippedUptoCard : Claim7 := { stood := { row := isacheckShippedUptoRow, standIns := [], harness := (true, "c0222b0625535a333b83743e25f36ba365bc9e2ab7878332f52d8e5c922391d4"), looks := false }, kinds := [], alts := [], laidByText := true, laidKinds := [.data, .pinned], laidTests := true, laidLooks := .later }
def IsacheckShippedUptoCardSaid : Prop := Claim7.holds Tryz.pinned (.plain (OpenSpec.upto isacheckShippedSpec)) isacheckShippedUptoCard

/-- THE SECOND FORM's CARD OF 'dovetaillaw05.IsacheckWidths'. -/
def isacheckWidthsUptoCard : Claim7 := { stood := { row := isacheckWidthsUptoRow, standIns := [], harness := (true, "c0222b0625535a333b83743e25f36ba365bc9e2ab7878332f52d8e5c922391d4"), looks := false }, kinds := [], alts := [], laidByText := true, laidKinds := [.data, .pinned], laidTests := true, laidLooks := .later }
def IsacheckWidthsUptoCardSaid : Prop := Claim7.holds Tryz.pinned (.plain (OpenSpec.upto isacheckWidthsSpec)) isacheckWidthsUptoCard
end Rows
end Go.Proofs.YtcegkagfpjdidaaGreatDoor
