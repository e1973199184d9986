/-
  DERIVED. GIVEN WITH THE SEED: THE CARDS: each row of YtigbldheclnmeaaGreatDoorRows.lean that lists a variable, with what it lists TIED to the program's text (the seventh form; the later family's looks); each row that meets fmt, with fmt's text TOLD by the authors' own Lean function (tested against real Go, not proved from fmt's source: count such statements apart). THE CARD IS WHAT COUNTS. Prove the row's statement (the work); the ties are given (YtigbldheclnmeaaGreatDoorTie.lean); close each card by the builder's one call (the guide's Derived/Test/ToyasCard.lean, 'card_holds'). Laid BY PROGRAM, IN A SANDBOX (cutbox-door.mjs). By AI agents, Wed Nov 11 2026. No macro, syntax, notation, axiom, sorry.
-/
import Derived.Test.YtigbldheclnmeaaGreatDoorRows
import GoSem.ClaimSeven
namespace Go.Proofs.YtigbldheclnmeaaGreatDoor
namespace Rows

/-- THE TIED CARD OF 'dovetaillaw05.IsacheckApart'. -/
def isacheckApartCard : Claim7 := { stood := { row := isacheckApartRow, standIns := [], harness := (true, "98872a41bbfcf1e85ff512b2c97936875b5e1fdefd2c2264d26ded86ce54db5d"), looks := true }, kinds := [], alts := [], laidByText := true, laidKinds := [.data, .pinned], laidTests := true, laidLooks := .later }
def IsacheckApartCardSaid : Prop := Claim7.holds Tryz.pinned (.plain (OpenSpec.ofChange isacheckApartSpec)) isacheckApartCard

/-- THE TIED CARD OF 'dovetaillaw06.CodecValues'. -/
def codecValuesCard : Claim7 := { stood := { row := codecValuesRow, standIns := [], harness := (true, "98872a41bbfcf1e85ff512b2c97936875b5e1fdefd2c2264d26ded86ce54db5d"), looks := true }, kinds := [], alts := [], laidByText := true, laidKinds := [.data, .pinned], laidTests := true, laidLooks := .later }
def CodecValuesCardSaid : Prop := Claim7.holds Tryz.pinned (.plain (OpenSpec.ofChange codecValuesSpec)) codecValuesCard

/-- THE TIED CARD OF 'dovetaillaw08.TermNames'. -/
def termNamesCard : Claim7 := { stood := { row := termNamesRow, standIns := [], harness := (true, "98872a41bbfcf1e85ff512b2c97936875b5e1fdefd2c2264d26ded86ce54db5d"), looks := true }, kinds := [], alts := [], laidByText := true, laidKinds := [.data, .pinned], laidTests := true, laidLooks := .later }
def TermNamesCardSaid : Prop := Claim7.holds Tryz.pinned (.plain (OpenSpec.ofChange termNamesSpec)) termNamesCard

/-- THE TIED CARD OF 'dovetaillaw08.TermEvals'. -/
def termEvalsCard : Claim7 := { stood := { row := termEvalsRow, standIns := [], harness := (true, "98872a41bbfcf1e85ff512b2c97936875b5e1fdefd2c2264d26ded86ce54db5d"), looks := true }, kinds := [], alts := [], laidByText := true, laidKinds := [.data, .pinned], laidTests := true, laidLooks := .later }
def TermEvalsCardSaid : Prop := Claim7.holds Tryz.pinned (.plain (OpenSpec.ofChange termEvalsSpec)) termEvalsCard

/-- THE SECOND FORM's CARD OF 'dovetaillaw05.IsacheckApart'. -/
def isacheckApartUptoCard : Claim7 := { stood := { row := isacheckApartUptoRow, standIns := [], harness := (true, "98872a41bbfcf1e85ff512b2c97936875b5e1fdefd2c2264d26ded86ce54db5d"), looks := true }, kinds := [], alts := [], laidByText := true, laidKinds := [.data, .pinned], laidTests := true, laidLooks := .later }
def IsacheckApartUptoCardSaid : Prop := Claim7.holds Tryz.pinned (.plain (OpenSpec.upto isacheckApartSpec)) isacheckApartUptoCard

/-- THE SECOND FORM's CARD OF 'dovetaillaw06.CodecValues'. -/
def codecValuesUptoCard : Claim7 := { stood := { row := codecValuesUptoRow, standIns := [], harness := (true, "98872a41bbfcf1e85ff512b2c97936875b5e1fdefd2c2264d26ded86ce54db5d"), looks := true }, kinds := [], alts := [], laidByText := true, laidKinds := [.data, .pinned], laidTests := true, laidLooks := .later }
def CodecValuesUptoCardSaid : Prop := Claim7.holds Tryz.pinned (.plain (OpenSpec.upto codecValuesSpec)) codecValuesUptoCard

/-- THE SECOND FORM's CARD OF 'dovetaillaw08.TermNames'. -/
def termNamesUptoCard : Claim7 := { stood := { row := termNamesUptoRow, standIns := [], harness := (true, "98872a41bbfcf1e85ff512b2c97936875b5e1fdefd2c2264d26ded86ce54db5d"), looks := true }, kinds := [], alts := [], laidByText := true, laidKinds := [.data, .pinned], laidTests := true, laidLooks := .later }
def TermNamesUptoCardSaid : Prop := Claim7.holds Tryz.pinned (.plain (OpenSpec.upto termNamesSpec)) termNamesUptoCard

/-- THE SECOND FORM's CARD OF 'dovetaillaw08.TermEvals'. -/
def termEvalsUptoCard : Claim7 := { stood := { row := termEvalsUptoRow, standIns := [], harness := (true, "98872a41bbfcf1e85ff512b2c97936875b5e1fdefd2c2264d26ded86ce54db5d"), looks := true }, kinds := [], alts := [], laidByText := true, laidKinds := [.data, .pinned], laidTests := true, laidLooks := .later }
def TermEvalsUptoCardSaid : Prop := Claim7.holds Tryz.pinned (.plain (OpenSpec.upto termEvalsSpec)) termEvalsUptoCard
end Rows
end Go.Proofs.YtigbldheclnmeaaGreatDoor
