/-
  DERIVED. GIVEN WITH THE SEED: THE CARDS: each row of YtcndmiolaheaeabGreatDoorRows.lean that lists a variable, with what it lists TIED to the program's text (the seventh form; the later family's looks); each row that meets fmt, with fmt's text TOLD by the authors' own Lean function (tested against real Go, not proved from fmt's source: count such statements apart). THE CARD IS WHAT COUNTS. Prove the row's statement (the work); the ties are given (YtcndmiolaheaeabGreatDoorTie.lean); close each card by the builder's one call (the guide's Derived/Test/ToyasCard.lean, 'card_holds'). Laid BY PROGRAM, IN A SANDBOX (cutbox-door.mjs). By AI agents, Wed Nov 11 2026. No macro, syntax, notation, axiom, sorry.
-/
import Derived.Test.YtcndmiolaheaeabGreatDoorRows
import GoSem.ClaimSeven
namespace Go.Proofs.YtcndmiolaheaeabGreatDoor
namespace Rows

/-- THE TIED CARD OF 'dovetaillaw05.IsacheckShipped'. -/
def isacheckShippedCard : Claim7 := { stood := { row := isacheckShippedRow, standIns := [], harness := (true, "6605178d6e5598ca37d5a31ec04c22e8a34633c7d69d98c8a334027faa79f445"), looks := false }, kinds := [], alts := [], laidByText := true, laidKinds := [.data, .pinned], laidTests := true, laidLooks := .later }
def IsacheckShippedCardSaid : Prop := Claim7.holds Tryz.pinned (.plain (OpenSpec.ofChange isacheckShippedSpec)) isacheckShippedCard

/-- THE TIED CARD OF 'dovetaillaw05.IsacheckWidths'. -/
def isacheckWidthsCard : Claim7 := { stood := { row := isacheckWidthsRow, standIns := [], harness := (true, "6605178d6e5598ca37d5a31ec04c22e8a34633c7d69d98c8a334027faa79f445"), looks := false }, kinds := [], alts := [], laidByText := true, laidKinds := [.data, .pinned], laidTests := true, laidLooks := .later }
def IsacheckWidthsCardSaid : Prop := Claim7.holds Tryz.pinned (.plain (OpenSpec.ofChange isacheckWidthsSpec)) isacheckWidthsCard

/-- THE TIED CARD OF 'dovetaillaw05.IsacheckApart'. -/
def isacheckApartCard : Claim7 := { stood := { row := isacheckApartRow, standIns := [], harness := (true, "6605178d6e5598ca37d5a31ec04c22e8a34633c7d69d98c8a334027faa79f445"), looks := false }, kinds := [], alts := [], laidByText := true, laidKinds := [.data, .pinned], laidTests := true, laidLooks := .later }
def IsacheckApartCardSaid : Prop := Claim7.holds Tryz.pinned (.plain (OpenSpec.ofChange isacheckApartSpec)) isacheckApartCard

/-- THE TIED CARD OF 'dovetaillaw05.IsacheckTargets'. -/
def isacheckTargetsCard : Claim7 := { stood := { row := isacheckTargetsRow, standIns := [], harness := (true, "6605178d6e5598ca37d5a31ec04c22e8a34633c7d69d98c8a334027faa79f445"), looks := false }, kinds := [], alts := [], laidByText := true, laidKinds := [.data, .pinned], laidTests := true, laidLooks := .later }
def IsacheckTargetsCardSaid : Prop := Claim7.holds Tryz.pinned (.plain (OpenSpec.ofChange isacheckTargetsSpec)) isacheckTargetsCard

/-- THE SECOND FORM's CARD OF 'dovetaillaw05.IsacheckShipped'. -/
def isacheckShippedUptoCard : Claim7 := { stood := { row := isacheckShippedUptoRow, standIns := [], harness := (true, "6605178d6e5598ca37d5a31ec04c22e8a34633c7d69d98c8a334027faa79f445"), looks := false }, kinds := [], alts := [], laidByText := true, laidKinds := [.data, .pinned], laidTests := true, laidLooks := .later }
def IsacheckShippedUptoCardSaid : Prop := Claim7.holds Tryz.pinned (.plain (OpenSpec.upto isacheckShippedSpec)) isacheckShippedUptoCard

/-- THE SECOND FORM's CARD OF 'dovetaillaw05.IsacheckWidths'. -/
def isacheckWidthsUptoCard : Claim7 := { stood := { row := isacheckWidthsUptoRow, standIns := [], harness := (true, "6605178d6e5598ca37d5a31ec04c22e8a34633c7d69d98c8a334027faa79f445"), looks := false }, kinds := [], alts := [], laidByText := true, laidKinds := [.data, .pinned], laidTests := true, laidLooks := .later }
def IsacheckWidthsUptoCardSaid : Prop := Claim7.holds Tryz.pinned (.plain (OpenSpec.upto isacheckWidthsSpec)) isacheckWidthsUptoCard

/-- THE SECOND FORM's CARD OF 'dovetaillaw05.IsacheckApart'. -/
def isacheckApartUptoCard : Claim7 := { stood := { row := isacheckApartUptoRow, standIns := [], harness := (true, "6605178d6e5598ca37d5a31ec04c22e8a34633c7d69d98c8a334027faa79f445"), looks := false }, kinds := [], alts := [], laidByText := true, laidKinds := [.data, .pinned], laidTests := true, laidLooks := .later }
def IsacheckApartUptoCardSaid : Prop := Claim7.holds Tryz.pinned (.plain (OpenSpec.upto isacheckApartSpec)) isacheckApartUptoCard

/-- THE SECOND FORM's CARD OF 'dovetaillaw05.IsacheckTargets'. -/
def isacheckTargetsUptoCard : Claim7 := { stood := { row := isacheckTargetsUptoRow, standIns := [], harness := (true, "6605178d6e5598ca37d5a31ec04c22e8a34633c7d69d98c8a334027faa79f445"), looks := false }, kinds := [], alts := [], laidByText := true, laidKinds := [.data, .pinned], laidTests := true, laidLooks := .later }
def IsacheckTargetsUptoCardSaid : Prop := Claim7.holds Tryz.pinned (.plain (OpenSpec.upto isacheckTargetsSpec)) isacheckTargetsUptoCard
end Rows
end Go.Proofs.YtcndmiolaheaeabGreatDoor
