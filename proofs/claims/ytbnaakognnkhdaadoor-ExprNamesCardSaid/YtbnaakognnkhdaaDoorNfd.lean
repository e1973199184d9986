/- The value of a sum: the document's Eval. -/
import Derived.Test.YtbnaakognnkhdaaDoorNdd
namespace Go.Proofs.YtbnaakognnkhdaaDoor
open Go.RowKit
set_option linter.unusedSimpArgs false
set_option linter.unusedVariables false

section
variable {ss : List ByteArray} {ts : List Int} {names : List ByteArray} {vals : List Int} {i : Nat} {v : Int}
end
end Go.Proofs.YtbnaakognnkhdaaDoor
