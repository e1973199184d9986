/-
  DERIVED. GIVEN WITH THE SEED: THE CARDS: each row of YtdipnhghdajplaaGreatDoorRows.lean that lists a variable, with what it lists TIED to the program's text (the seventh form; the later family's looks); each row that meets fmt, with fmt's text TOLD by the authors' own Lean function (tested against real Go, not proved from fmt's source: count such statements apart). THE CARD IS WHAT COUNTS. Prove the row's statement (the work); the ties are given (YtdipnhghdajplaaGreatDoorTie.lean); close each card by the builder's one call (the guide's Derived/Test/ToyasCard.lean, 'card_holds'). Laid BY PROGRAM, IN A SANDBOX (cutbox-door.mjs). By AI agents, Wed Nov 11 2026. No macro, syntax, notation, axiom, sorry.
-/
import Derived.Test.YtdipnhghdajplaaGreatDoorRows
import GoSem.ClaimSeven
namespace Go.Proofs.YtdipnhghdajplaaGreatDoor
namespace Rows

/-- THE TIED CARD OF 'dovetaillaw05.IsacheckApart'. -/
def isacheckApartCard : Claim7 := { stood := { row := isacheckApartRow, standIns := [], harness := (true, "81166376e9c7c4a17fbae0c8d801b5847e6492d3b290f9a49599e6cc92e8288f"), looks := false }, kinds := [], alts := [], laidByText := true, laidKinds := [.data, .pinned], laidTests := true, laidLooks := .later }
def IsacheckApartCardSaid : Prop := Claim7.holds Tryz.pinned (.plain (OpenSpec.ofChange isacheckApartSpec)) isacheckApartCard

/-- THE TIED CARD OF 'dovetaillaw06.CodecBack'. -/
def codecBackCard : Claim7 := { stood := { row := codecBackRow, standIns := [], harness := (true, "81166376e9c7c4a17fbae0c8d801b5847e6492d3b290f9a49599e6cc92e8288f"), looks := false }, kinds := [], alts := [], laidByText := true, laidKinds := [.data, .pinned], laidTests := true, laidLooks := .later }
def CodecBackCardSaid : Prop := Claim7.holds Tryz.pinned (.plain (OpenSpec.ofChange codecBackSpec)) codecBackCard

/-- THE TIED CARD OF 'dovetaillaw06.CodecForth'. -/
def codecForthCard : Claim7 := { stood := { row := codecForthRow, standIns := [], harness := (true, "81166376e9c7c4a17fbae0c8d801b5847e6492d3b290f9a49599e6cc92e8288f"), looks := false }, kinds := [], alts := [], laidByText := true, laidKinds := [.data, .pinned], laidTests := true, laidLooks := .later }
def CodecForthCardSaid : Prop := Claim7.holds Tryz.pinned (.plain (OpenSpec.ofChange codecForthSpec)) codecForthCard

/-- THE TIED CARD OF 'dovetaillaw06.CodecValues'. -/
def codecValuesCard : Claim7 := { stood := { row := codecValuesRow, standIns := [], harness := (true, "81166376e9c7c4a17fbae0c8d801b5847e6492d3b290f9a49599e6cc92e8288f"), looks := false }, kinds := [], alts := [], laidByText := true, laidKinds := [.data, .pinned], laidTests := true, laidLooks := .later }
def CodecValuesCardSaid : Prop := Claim7.holds Tryz.pinned (.plain (OpenSpec.ofChange codecValuesSpec)) codecValuesCard

/-- THE SECOND FORM's CARD OF 'dovetaillaw05.IsacheckApart'. -/
def isacheckApartUptoCard : Claim7 := { stood := { row := isacheckApartUptoRow, standIns := [], harness := (true, "81166376e9c7c4a17fbae0c8d801b5847e6492d3b290f9a49599e6cc92e8288f"), looks := false }, kinds := [], alts := [], laidByText := true, laidKinds := [.data, .pinned], laidTests := true, laidLooks := .later }
def IsacheckApartUptoCardSaid : Prop := Claim7.holds Tryz.pinned (.plain (OpenSpec.upto isacheckApartSpec)) isacheckApartUptoCard

/-- THE SECOND FORM's CARD OF 'dovetaillaw06.CodecBack'. -/
def codecBackUptoCard : Claim7 := { stood := { row := codecBackUptoRow, standIns := [], harness := (true, "81166376e9c7c4a17fbae0c8d801b5847e6492d3b290f9a49599e6cc92e8288f"), looks := false }, kinds := [], alts := [], laidByText := true, laidKinds := [.data, .pinned], laidTests := true, laidLooks := .later }
def CodecBackUptoCardSaid : Prop := Claim7.holds Tryz.pinned (.plain (OpenSpec.upto codecBackSpec)) codecBackUptoCard

/-- THE SECOND FORM's CARD OF 'dovetaillaw06.CodecForth'. -/
def codecForthUptoCard : Claim7 := { stood := { row := codecForthUptoRow, standIns := [], harness := (true, "81166376e9c7c4a17fbae0c8d801b5847e6492d3b290f9a49599e6cc92e8288f"), looks := false }, kinds := [], alts := [], laidByText := true, laidKinds := [.data, .pinned], laidTests := true, laidLooks := .later }
def CodecForthUptoCardSaid : Prop := Claim7.holds Tryz.pinned (.plain (OpenSpec.upto codecForthSpec)) codecForthUptoCard

/-- THE SECOND FORM's CARD OF 'dovetaillaw06.CodecValues'. -/
def codecValuesUptoCard : Claim7 := { stood := { row := codecValuesUptoRow, standIns := [], harness := (true, "81166376e9c7c4a17fbae0c8d801b5847e6492d3b290f9a49599e6cc92e8288f"), looks := false }, kinds := [], alts := [], laidByText := true, laidKinds := [.data, .pinned], laidTests := true, laidLooks := .later }
def CodecValuesUptoCardSaid : Prop := Claim7.holds Tryz.pinned (.plain (OpenSpec.upto codecValuesSpec)) codecValuesUptoCard
end Rows
end Go.Proofs.YtdipnhghdajplaaGreatDoor
