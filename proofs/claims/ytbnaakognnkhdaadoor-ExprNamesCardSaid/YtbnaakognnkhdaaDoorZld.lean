/- Which sums the program takes for normal. -/
import Derived.Test.YtbnaakognnkhdaaDoorZkd
namespace Go.Proofs.YtbnaakognnkhdaaDoor
open Go.RowKit
set_option linter.unusedSimpArgs false
set_option linter.unusedVariables false

end Go.Proofs.YtbnaakognnkhdaaDoor
