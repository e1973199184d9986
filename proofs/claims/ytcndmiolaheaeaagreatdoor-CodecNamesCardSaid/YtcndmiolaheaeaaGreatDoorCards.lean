/-
  DERIVED. GIVEN WITH THE SEED: THE CARDS: each row of YtcndmiolaheaeaaGreatDoorRows.lean that lists a variable, with what it lists TIED to the program's text (the seventh form; the later family's looks); each row that meets fmt, with fmt's text TOLD by the authors' own Lean function (tested against real Go, not proved from fmt's source: count such statements apart). THE CARD IS WHAT COUNTS. Prove the row's statement (the work); the ties are given (YtcndmiolaheaeaaGreatDoorTie.lean); close each card by the builder's one call (the guide's Derived/Test/ToyasCard.lean, 'card_holds'). Laid BY PROGRAM, IN A SANDBOX (cutbox-door.mjs). By AI agents, Wed Nov 11 2026. No macro, syntax, notation, axiom, sorry.
-/
import Derived.Test.YtcndmiolaheaeaaGreatDoorRows
import GoSem.ClaimSeven
namespace Go.Proofs.YtcndmiolaheaeaaGreatDoor
namespace Rows

/-- THE TIED CARD OF 'dovetaillaw06.CodecNames'. -/
def codecNamesCard : Claim7 := { stood := { row := codecNamesRow, standIns := [], harness := (true, "8a424342a84698a0240180d7166c035097c670211daf92fb94e74216d23fed7b"), looks := false }, kinds := [], alts := [], laidByText := true, laidKinds := [.data, .pinned], laidTests := true, laidLooks := .later }
def CodecNamesCardSaid : Prop := Claim7.holds Tryz.pinned (.plain (OpenSpec.ofChange codecNamesSpec)) codecNamesCard

/-- THE TIED CARD OF 'dovetaillaw06.CodecCodes'. -/
def codecCodesCard : Claim7 := { stood := { row := codecCodesRow, standIns := [], harness := (true, "8a424342a84698a0240180d7166c035097c670211daf92fb94e74216d23fed7b"), looks := false }, kinds := [], alts := [], laidByText := true, laidKinds := [.data, .pinned], laidTests := true, laidLooks := .later }
def CodecCodesCardSaid : Prop := Claim7.holds Tryz.pinned (.plain (OpenSpec.ofChange codecCodesSpec)) codecCodesCard

/-- THE TIED CARD OF 'dovetaillaw06.CodecTargets'. -/
def codecTargetsCard : Claim7 := { stood := { row := codecTargetsRow, standIns := [], harness := (true, "8a424342a84698a0240180d7166c035097c670211daf92fb94e74216d23fed7b"), looks := false }, kinds := [], alts := [], laidByText := true, laidKinds := [.data, .pinned], laidTests := true, laidLooks := .later }
def CodecTargetsCardSaid : Prop := Claim7.holds Tryz.pinned (.plain (OpenSpec.ofChange codecTargetsSpec)) codecTargetsCard

/-- THE TIED CARD OF 'dovetaillaw06.CodecBack'. -/
def codecBackCard : Claim7 := { stood := { row := codecBackRow, standIns := [], harness := (true, "8a424342a84698a0240180d7166c035097c670211daf92fb94e74216d23fed7b"), looks := false }, kinds := [], alts := [], laidByText := true, laidKinds := [.data, .pinned], laidTests := true, laidLooks := .later }
def CodecBackCardSaid : Prop := Claim7.holds Tryz.pinned (.plain (OpenSpec.ofChange codecBackSpec)) codecBackCard

/-- THE TIED CARD OF 'dovetaillaw06.CodecForth'. -/
def codecForthCard : Claim7 := { stood := { row := codecForthRow, standIns := [], harness := (true, "8a424342a84698a0240180d7166c035097c670211daf92fb94e74216d23fed7b"), looks := false }, kinds := [], alts := [], laidByText := true, laidKinds := [.data, .pinned], laidTests := true, laidLooks := .later }
def CodecForthCardSaid : Prop := Claim7.holds Tryz.pinned (.plain (OpenSpec.ofChange codecForthSpec)) codecForthCard

/-- THE TIED CARD OF 'dovetaillaw06.CodecShipped'. -/
def codecShippedCard : Claim7 := { stood := { row := codecShippedRow, standIns := [], harness := (true, "8a424342a84698a0240180d7166c035097c670211daf92fb94e74216d23fed7b"), looks := false }, kinds := [], alts := [], laidByText := true, laidKinds := [.data, .pinned], laidTests := true, laidLooks := .later }
def CodecShippedCardSaid : Prop := Claim7.holds Tryz.pinned (.plain (OpenSpec.ofChange codecShippedSpec)) codecShippedCard

/-- THE TIED CARD OF 'dovetaillaw06.CodecValues'. -/
def codecValuesCard : Claim7 := { stood := { row := codecValuesRow, standIns := [], harness := (true, "8a424342a84698a0240180d7166c035097c670211daf92fb94e74216d23fed7b"), looks := false }, kinds := [], alts := [], laidByText := true, laidKinds := [.data, .pinned], laidTests := true, laidLooks := .later }
def CodecValuesCardSaid : Prop := Claim7.holds Tryz.pinned (.plain (OpenSpec.ofChange codecValuesSpec)) codecValuesCard

/-- THE SECOND FORM's CARD OF 'dovetaillaw06.CodecNames'. -/
def codecNamesUptoCard : Claim7 := { stood := { row := codecNamesUptoRow, standIns := [], harness := (true, "8a424342a84698a0240180d7166c035097c670211daf92fb94e74216d23fed7b"), looks := false }, kinds := [], alts := [], laidByText := true, laidKinds := [.data, .pinned], laidTests := true, laidLooks := .later }
def CodecNamesUptoCardSaid : Prop := Claim7.holds Tryz.pinned (.plain (OpenSpec.upto codecNamesSpec)) codecNamesUptoCard

/-- THE SECOND FORM's CARD OF 'dovetaillaw06.CodecCodes'. -/
def codecCodesUptoCard : Claim7 := { stood := { row := codecCodesUptoRow, standIns := [], harness := (true, "8a424342a84698a0240180d7166c035097c670211daf92fb94e74216d23fed7b"), looks := false }, kinds := [], alts := [], laidByText := true, laidKinds := [.data, .pinned], laidTests := true, laidLooks := .later }
def CodecCodesUptoCardSaid : Prop := Claim7.holds Tryz.pinned (.plain (OpenSpec.upto codecCodesSpec)) codecCodesUptoCard

/-- THE SECOND FORM's CARD OF 'dovetaillaw06.CodecTargets'. -/
def codecTargetsUptoCard : Claim7 := { stood := { row := codecTargetsUptoRow, standIns := [], harness := (true, "8a424342a84698a0240180d7166c035097c670211daf92fb94e74216d23fed7b"), looks := false }, kinds := [], alts := [], laidByText := true, laidKinds := [.data, .pinned], laidTests := true, laidLooks := .later }
def CodecTargetsUptoCardSaid : Prop := Claim7.holds Tryz.pinned (.plain (OpenSpec.upto codecTargetsSpec)) codecTargetsUptoCard

/-- THE SECOND FORM's CARD OF 'dovetaillaw06.CodecBack'. -/
def codecBackUptoCard : Claim7 := { stood := { row := codecBackUptoRow, standIns := [], harness := (true, "8a424342a84698a0240180d7166c035097c670211daf92fb94e74216d23fed7b"), looks := false }, kinds := [], alts := [], laidByText := true, laidKinds := [.data, .pinned], laidTests := true, laidLooks := .later }
def CodecBackUptoCardSaid : Prop := Claim7.holds Tryz.pinned (.plain (OpenSpec.upto codecBackSpec)) codecBackUptoCard

/-- THE SECOND FORM's CARD OF 'dovetaillaw06.CodecForth'. -/
def codecForthUptoCard : Claim7 := { stood := { row := codecForthUptoRow, standIns := [], harness := (true, "8a424342a84698a0240180d7166c035097c670211daf92fb94e74216d23fed7b"), looks := false }, kinds := [], alts := [], laidByText := true, laidKinds := [.data, .pinned], laidTests := true, laidLooks := .later }
def CodecForthUptoCardSaid : Prop := Claim7.holds Tryz.pinned (.plain (OpenSpec.upto codecForthSpec)) codecForthUptoCard

/-- THE SECOND FORM's CARD OF 'dovetaillaw06.CodecShipped'. -/
def codecShippedUptoCard : Claim7 := { stood := { row := codecShippedUptoRow, standIns := [], harness := (true, "8a424342a84698a0240180d7166c035097c670211daf92fb94e74216d23fed7b"), looks := false }, kinds := [], alts := [], laidByText := true, laidKinds := [.data, .pinned], laidTests := true, laidLooks := .later }
def CodecShippedUptoCardSaid : Prop := Claim7.holds Tryz.pinned (.plain (OpenSpec.upto codecShippedSpec)) codecShippedUptoCard

/-- THE SECOND FORM's CARD OF 'dovetaillaw06.CodecValues'. -/
def codecValuesUptoCard : Claim7 := { stood := { row := codecValuesUptoRow, standIns := [], harness := (true, "8a424342a84698a0240180d7166c035097c670211daf92fb94e74216d23fed7b"), looks := false }, kinds := [], alts := [], laidByText := true, laidKinds := [.data, .pinned], laidTests := true, laidLooks := .later }
def CodecValuesUptoCardSaid : Prop := Claim7.holds Tryz.pinned (.plain (OpenSpec.upto codecValuesSpec)) codecValuesUptoCard
end Rows
end Go.Proofs.YtcndmiolaheaeaaGreatDoor
