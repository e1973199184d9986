/- Sums in memory; which are normal, as the document has it. -/
import Derived.Test.YtbnaakognnkhdaaDoorNxd
namespace Go.Proofs.YtbnaakognnkhdaaDoor
open Go.RowKit
set_option linter.unusedSimpArgs false
set_option linter.unusedVariables false

end Go.Proofs.YtbnaakognnkhdaaDoor
