/-
  No cell of these rows narrows 'for every input' (looked for: loops, veiled, ifaces, maps, wideKeys, modest, calm, conditions, laid).
  DERIVED. THE GIVEN ROWS OF THIS SEAT. 5 by the template 'for every input the law returns true; each argument reads behind the call as it read before'; 0 by the template 'total and deterministic' (their statements: YtfnoocpopfapmaaTotals.lean).
  GIVEN WITH THE SEED: the statements are not yours to turn. If you find one false, say at which input.
  Laid BY PROGRAM, IN A SANDBOX (cutbox-rows.mjs): the forced cells as the released guide's own fill.sh prints them over the translation 2fa083c9720fdee4… (all of the seat's roots in one cut). By AI agents, Wed Nov 11 2026. No macro, syntax, notation, axiom, sorry.
-/
import Derived.Test.YtfnoocpopfapmaaChecked
import GoSem.Claim
import GoSem.ClaimJoined
import GoSem.ClaimMapViews
import Derived.JoinedTies
import Derived.KernelRfl
namespace Go.Proofs.Ytfnoocpopfapmaa
/- THE CELL 'sum', in the pinned program and in every row, IS THE sha256 OF THE DUMP (.gsa) THAT YtfnoocpopfapmaaProg.lean LOADS. Nothing in Lean hashes anything: it is a label: what it is worth is what the hold of that sum in a sandbox is worth. -/
noncomputable def Try.pinned : Pinned := { name := "ytfnoocpopfapmaa", sum := "2fa083c9720fdee4c8510d31c8c2c1d617ec61bed697c5df21dea59722355618", checked := Try.checked }
namespace Rows
def none {H : Type} : Left H := { results := [], args := [] }

/-- 'dovetaillaw01.BvecBins': WHATEVER THE INPUT: true; the input reads as it did. -/
def bvecBinsSpec : ChangeSpec := { name := "bvecBins", fn := fun _ => fun
  | [d1, d2, d3] => { results := [.lit (.bool true)], args := [d1, d2, d3] }
  | _ => none }
def bvecBinsRow : OpenClaim := { program := "ytfnoocpopfapmaa", sum := "2fa083c9720fdee4c8510d31c8c2c1d617ec61bed697c5df21dea59722355618", func := "dovetail/dovetaillaw01.BvecBins", spec := "bvecBins", inPlace := ["math/bits.Add64", "math/bits.Sub64"], named := ["math/bits.divideError", "math/bits.overflowError"], apart := false }
def BvecBinsSaid : Prop := bvecBinsRow.holds Try.pinned (OpenSpec.ofChange bvecBinsSpec)

/-- ITS FALSE NEIGHBOUR: 'it returns false'. Refute it at one input. -/
def bvecBinsWrong : ChangeSpec := { name := "bvecBins", fn := fun _ => fun
  | [d1, d2, d3] => { results := [.lit (.bool false)], args := [d1, d2, d3] }
  | _ => none }
def BvecBinsWrongFalsely : Prop := bvecBinsRow.holds Try.pinned (OpenSpec.ofChange bvecBinsWrong)

/-- 'dovetaillaw01.BvecUns': WHATEVER THE INPUT: true; the input reads as it did. -/
def bvecUnsSpec : ChangeSpec := { name := "bvecUns", fn := fun _ => fun
  | [d1, d2] => { results := [.lit (.bool true)], args := [d1, d2] }
  | _ => none }
def bvecUnsRow : OpenClaim := { program := "ytfnoocpopfapmaa", sum := "2fa083c9720fdee4c8510d31c8c2c1d617ec61bed697c5df21dea59722355618", func := "dovetail/dovetaillaw01.BvecUns", spec := "bvecUns", inPlace := ["math/bits.Add64", "math/bits.Sub64"], named := ["math/bits.divideError", "math/bits.overflowError"], apart := false }
def BvecUnsSaid : Prop := bvecUnsRow.holds Try.pinned (OpenSpec.ofChange bvecUnsSpec)

/-- ITS FALSE NEIGHBOUR: 'it returns false'. Refute it at one input. -/
def bvecUnsWrong : ChangeSpec := { name := "bvecUns", fn := fun _ => fun
  | [d1, d2] => { results := [.lit (.bool false)], args := [d1, d2] }
  | _ => none }
def BvecUnsWrongFalsely : Prop := bvecUnsRow.holds Try.pinned (OpenSpec.ofChange bvecUnsWrong)

/-- 'dovetaillaw01.BvecParts': WHATEVER THE INPUT: true; the input reads as it did. -/
def bvecPartsSpec : ChangeSpec := { name := "bvecParts", fn := fun _ => fun
  | [d1, d2, d3] => { results := [.lit (.bool true)], args := [d1, d2, d3] }
  | _ => none }
def bvecPartsRow : OpenClaim := { program := "ytfnoocpopfapmaa", sum := "2fa083c9720fdee4c8510d31c8c2c1d617ec61bed697c5df21dea59722355618", func := "dovetail/dovetaillaw01.BvecParts", spec := "bvecParts", inPlace := ["math/bits.Add64", "math/bits.Sub64"], named := ["math/bits.divideError", "math/bits.overflowError"], apart := false }
def BvecPartsSaid : Prop := bvecPartsRow.holds Try.pinned (OpenSpec.ofChange bvecPartsSpec)

/-- ITS FALSE NEIGHBOUR: 'it returns false'. Refute it at one input. -/
def bvecPartsWrong : ChangeSpec := { name := "bvecParts", fn := fun _ => fun
  | [d1, d2, d3] => { results := [.lit (.bool false)], args := [d1, d2, d3] }
  | _ => none }
def BvecPartsWrongFalsely : Prop := bvecPartsRow.holds Try.pinned (OpenSpec.ofChange bvecPartsWrong)

/-- 'dovetaillaw01.BvecWidths': WHATEVER THE INPUT: true; the input reads as it did. -/
def bvecWidthsSpec : ChangeSpec := { name := "bvecWidths", fn := fun _ => fun
  | [d1, d2, d3] => { results := [.lit (.bool true)], args := [d1, d2, d3] }
  | _ => none }
def bvecWidthsRow : OpenClaim := { program := "ytfnoocpopfapmaa", sum := "2fa083c9720fdee4c8510d31c8c2c1d617ec61bed697c5df21dea59722355618", func := "dovetail/dovetaillaw01.BvecWidths", spec := "bvecWidths", inPlace := ["math/bits.Add64", "math/bits.Sub64"], named := ["math/bits.divideError", "math/bits.overflowError"], apart := false }
def BvecWidthsSaid : Prop := bvecWidthsRow.holds Try.pinned (OpenSpec.ofChange bvecWidthsSpec)

/-- ITS FALSE NEIGHBOUR: 'it returns false'. Refute it at one input. -/
def bvecWidthsWrong : ChangeSpec := { name := "bvecWidths", fn := fun _ => fun
  | [d1, d2, d3] => { results := [.lit (.bool false)], args := [d1, d2, d3] }
  | _ => none }
def BvecWidthsWrongFalsely : Prop := bvecWidthsRow.holds Try.pinned (OpenSpec.ofChange bvecWidthsWrong)

/-- 'dovetaillaw01.BvecDivides': WHATEVER THE INPUT: true; the input reads as it did. -/
def bvecDividesSpec : ChangeSpec := { name := "bvecDivides", fn := fun _ => fun
  | [d1, d2] => { results := [.lit (.bool true)], args := [d1, d2] }
  | _ => none }
def bvecDividesRow : OpenClaim := { program := "ytfnoocpopfapmaa", sum := "2fa083c9720fdee4c8510d31c8c2c1d617ec61bed697c5df21dea59722355618", func := "dovetail/dovetaillaw01.BvecDivides", spec := "bvecDivides", inPlace := ["math/bits.Add64", "math/bits.Sub64"], named := ["math/bits.divideError", "math/bits.overflowError"], apart := false }
def BvecDividesSaid : Prop := bvecDividesRow.holds Try.pinned (OpenSpec.ofChange bvecDividesSpec)

/-- ITS FALSE NEIGHBOUR: 'it returns false'. Refute it at one input. -/
def bvecDividesWrong : ChangeSpec := { name := "bvecDivides", fn := fun _ => fun
  | [d1, d2] => { results := [.lit (.bool false)], args := [d1, d2] }
  | _ => none }
def BvecDividesWrongFalsely : Prop := bvecDividesRow.holds Try.pinned (OpenSpec.ofChange bvecDividesWrong)

/- THE SECOND FORM. 'bulk': how many values and letters a reading holds, each counted each time it is reached (what is shared counts as often as it is met; a slice's spare places count too). A statement '..UptoSaid' is the law's where the arguments, and the package variables that the reading takes, are together of bulk at most 1048576: NARROWER than '..Said'. Prove '..Said' where nothing that the law and all that it calls make is longer than what came in: it says more and counts as full. Else prove '..UptoSaid'. A law counts once. -/
mutual
def uptoBulk {H : Type} : DataW H → Nat
  | .lit (.string bytes) => bytes.length + 1
  | .lit _ => 1
  | .nil => 1
  | .ptr d => uptoBulk d + 1
  | .slice elems spare => uptoBulkAll elems + uptoBulkAll spare + 1
  | .agg parts => uptoBulkAll parts + 1
  | .iface _ d => uptoBulk d + 1
  | .map entries => uptoBulkEntries entries + 1
  | .held _ => 1
def uptoBulkAll {H : Type} : List (DataW H) → Nat
  | [] => 0
  | d :: r => uptoBulk d + uptoBulkAll r
def uptoBulkEntries {H : Type} : List (Lit × DataW H) → Nat
  | [] => 0
  | x :: r => uptoBulkEntry x + uptoBulkEntries r
def uptoBulkEntry {H : Type} : Lit × DataW H → Nat
  | (.string bytes, d) => bytes.length + uptoBulk d + 1
  | (_, d) => uptoBulk d + 1
 end
def uptoSmall : (H : Type) → List (DataW H) → Bool := fun _ ds => decide (uptoBulkAll ds ≤ 1048576)
def OpenSpec.upto (s : _root_.Go.ChangeSpec) : _root_.Go.OpenSpec := { _root_.Go.OpenSpec.ofChange s with cond := some uptoSmall }

/-- 'dovetaillaw01.BvecBins', WHERE WHAT IT READS IS OF BULK AT MOST 1048576: true; the input reads as it did. -/
def bvecBinsUptoRow : OpenClaim := { program := "ytfnoocpopfapmaa", sum := "2fa083c9720fdee4c8510d31c8c2c1d617ec61bed697c5df21dea59722355618", func := "dovetail/dovetaillaw01.BvecBins", spec := "bvecBins", inPlace := ["math/bits.Add64", "math/bits.Sub64"], named := ["math/bits.divideError", "math/bits.overflowError"], apart := false, narrowed := true }
def BvecBinsUptoSaid : Prop := bvecBinsUptoRow.holds Try.pinned (OpenSpec.upto bvecBinsSpec)

/-- 'dovetaillaw01.BvecUns', WHERE WHAT IT READS IS OF BULK AT MOST 1048576: true; the input reads as it did. -/
def bvecUnsUptoRow : OpenClaim := { program := "ytfnoocpopfapmaa", sum := "2fa083c9720fdee4c8510d31c8c2c1d617ec61bed697c5df21dea59722355618", func := "dovetail/dovetaillaw01.BvecUns", spec := "bvecUns", inPlace := ["math/bits.Add64", "math/bits.Sub64"], named := ["math/bits.divideError", "math/bits.overflowError"], apart := false, narrowed := true }
def BvecUnsUptoSaid : Prop := bvecUnsUptoRow.holds Try.pinned (OpenSpec.upto bvecUnsSpec)

/-- 'dovetaillaw01.BvecParts', WHERE WHAT IT READS IS OF BULK AT MOST 1048576: true; the input reads as it did. -/
def bvecPartsUptoRow : OpenClaim := { program := "ytfnoocpopfapmaa", sum := "2fa083c9720fdee4c8510d31c8c2c1d617ec61bed697c5df21dea59722355618", func := "dovetail/dovetaillaw01.BvecParts", spec := "bvecParts", inPlace := ["math/bits.Add64", "math/bits.Sub64"], named := ["math/bits.divideError", "math/bits.overflowError"], apart := false, narrowed := true }
def BvecPartsUptoSaid : Prop := bvecPartsUptoRow.holds Try.pinned (OpenSpec.upto bvecPartsSpec)

/-- 'dovetaillaw01.BvecWidths', WHERE WHAT IT READS IS OF BULK AT MOST 1048576: true; the input reads as it did. -/
def bvecWidthsUptoRow : OpenClaim := { program := "ytfnoocpopfapmaa", sum := "2fa083c9720fdee4c8510d31c8c2c1d617ec61bed697c5df21dea59722355618", func := "dovetail/dovetaillaw01.BvecWidths", spec := "bvecWidths", inPlace := ["math/bits.Add64", "math/bits.Sub64"], named := ["math/bits.divideError", "math/bits.overflowError"], apart := false, narrowed := true }
def BvecWidthsUptoSaid : Prop := bvecWidthsUptoRow.holds Try.pinned (OpenSpec.upto bvecWidthsSpec)

/-- 'dovetaillaw01.BvecDivides', WHERE WHAT IT READS IS OF BULK AT MOST 1048576: true; the input reads as it did. -/
def bvecDividesUptoRow : OpenClaim := { program := "ytfnoocpopfapmaa", sum := "2fa083c9720fdee4c8510d31c8c2c1d617ec61bed697c5df21dea59722355618", func := "dovetail/dovetaillaw01.BvecDivides", spec := "bvecDivides", inPlace := ["math/bits.Add64", "math/bits.Sub64"], named := ["math/bits.divideError", "math/bits.overflowError"], apart := false, narrowed := true }
def BvecDividesUptoSaid : Prop := bvecDividesUptoRow.holds Try.pinned (OpenSpec.upto bvecDividesSpec)

end Rows
end Go.Proofs.Ytfnoocpopfapmaa
