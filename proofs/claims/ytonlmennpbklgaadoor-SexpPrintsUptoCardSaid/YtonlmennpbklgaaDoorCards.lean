/-
  DERIVED. GIVEN WITH THE SEED: THE CARDS: each row of YtonlmennpbklgaaDoorRows.lean that lists a variable, with what it lists TIED to the program's text (the seventh form; the later family's looks); each row that meets fmt, with fmt's text TOLD by the authors' own Lean function (tested against real Go, not proved from fmt's source: count such statements apart). THE CARD IS WHAT COUNTS. Prove the row's statement (the work); the ties are given (YtonlmennpbklgaaDoorTie.lean); close each card by the builder's one call (the guide's Derived/Test/ToyasCard.lean, 'card_holds'). Laid BY PROGRAM, IN A SANDBOX (cutbox-door.mjs). By AI agents, Wed Nov 11 2026. No macro, syntax, notation, axiom, sorry.
-/
import Derived.Test.YtonlmennpbklgaaDoorRows
import GoSem.ClaimSeven
namespace Go.Proofs.YtonlmennpbklgaaDoor
namespace Rows

/-- THE TIED CARD OF 'dovetaillaw03.SexpParses'. -/
def sexpParsesCard : Claim7 := { stood := { row := sexpParsesRow, standIns := [], harness := (true, "5ff8be9517cb05dcda7db89087f35bff1a38bd214afaf6f207cba69cb8e2d556"), looks := true }, kinds := [], alts := [], laidByText := true, laidKinds := [.data, .data, .data, .sentinel, .sentinel], laidTests := true, laidLooks := .later }
def SexpParsesCardSaid : Prop := Claim7.holds Tryd.pinned (.plain (OpenSpec.ofChange sexpParsesSpec)) sexpParsesCard

/-- THE TIED CARD OF 'dovetaillaw03.SexpPrints'. -/
def sexpPrintsCard : Claim7 := { stood := { row := sexpPrintsRow, standIns := [], harness := (true, "5ff8be9517cb05dcda7db89087f35bff1a38bd214afaf6f207cba69cb8e2d556"), looks := true }, kinds := [], alts := [], laidByText := true, laidKinds := [.data, .data, .data, .sentinel, .sentinel], laidTests := true, laidLooks := .later }
def SexpPrintsCardSaid : Prop := Claim7.holds Tryd.pinned (.plain (OpenSpec.ofChange sexpPrintsSpec)) sexpPrintsCard

/-- THE TIED CARD OF 'dovetaillaw03.SexpTwice'. -/
def sexpTwiceCard : Claim7 := { stood := { row := sexpTwiceRow, standIns := [], harness := (true, "5ff8be9517cb05dcda7db89087f35bff1a38bd214afaf6f207cba69cb8e2d556"), looks := true }, kinds := [], alts := [], laidByText := true, laidKinds := [.data, .data, .data, .sentinel, .sentinel], laidTests := true, laidLooks := .later }
def SexpTwiceCardSaid : Prop := Claim7.holds Tryd.pinned (.plain (OpenSpec.ofChange sexpTwiceSpec)) sexpTwiceCard

/-- THE SECOND FORM's CARD OF 'dovetaillaw03.SexpParses'. -/
def sexpParsesUptoCard : Claim7 := { stood := { row := sexpParsesUptoRow, standIns := [], harness := (true, "5ff8be9517cb05dcda7db89087f35bff1a38bd214afaf6f207cba69cb8e2d556"), looks := true }, kinds := [], alts := [], laidByText := true, laidKinds := [.data, .data, .data, .sentinel, .sentinel], laidTests := true, laidLooks := .later }
def SexpParsesUptoCardSaid : Prop := Claim7.holds Tryd.pinned (.plain (OpenSpec.upto sexpParsesSpec)) sexpParsesUptoCard

/-- THE SECOND FORM's CARD OF 'dovetaillaw03.SexpPrints'. -/
def sexpPrintsUptoCard : Claim7 := { stood := { row := sexpPrintsUptoRow, standIns := [], harness := (true, "5ff8be9517cb05dcda7db89087f35bff1a38bd214afaf6f207cba69cb8e2d556"), looks := true }, kinds := [], alts := [], laidByText := true, laidKinds := [.data, .data, .data, .sentinel, .sentinel], laidTests := true, laidLooks := .later }
def SexpPrintsUptoCardSaid : Prop := Claim7.holds Tryd.pinned (.plain (OpenSpec.upto sexpPrintsSpec)) sexpPrintsUptoCard

/-- THE SECOND FORM's CARD OF 'dovetaillaw03.SexpTwice'. -/
def sexpTwiceUptoCard : Claim7 := { stood := { row := sexpTwiceUptoRow, standIns := [], harness := (true, "5ff8be9517cb05dcda7db89087f35bff1a38bd214afaf6f207cba69cb8e2d556"), looks := true }, kinds := [], alts := [], laidByText := true, laidKinds := [.data, .data, .data, .sentinel, .sentinel], laidTests := true, laidLooks := .later }
def SexpTwiceUptoCardSaid : Prop := Claim7.holds Tryd.pinned (.plain (OpenSpec.upto sexpTwiceSpec)) sexpTwiceUptoCard
end Rows
end Go.Proofs.YtonlmennpbklgaaDoor
