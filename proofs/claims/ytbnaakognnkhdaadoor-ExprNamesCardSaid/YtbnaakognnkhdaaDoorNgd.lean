/- Numbers in digits; a sum's text: the document's Print. -/
import Derived.Test.YtbnaakognnkhdaaDoorNed
import Derived.IntWalk
import Derived.Laws.BytesArg
import Derived.Laws.Concat
import Derived.Deep.RegionWith
import Derived.Lib.ItoaNum
namespace Go.Proofs.YtbnaakognnkhdaaDoor
open Go.RowKit
set_option linter.unusedSimpArgs false
set_option linter.unusedVariables false

end Go.Proofs.YtbnaakognnkhdaaDoor
