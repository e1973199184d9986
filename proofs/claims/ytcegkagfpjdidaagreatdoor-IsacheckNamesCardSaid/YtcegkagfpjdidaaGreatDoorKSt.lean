/- The reader's tree at a run. -/
import Derived.Test.YtcegkagfpjdidaaGreatDoorKSs
namespace Go.Proofs.YtcegkagfpjdidaaGreatDoor
open Go.RowKit
set_option linter.unusedSimpArgs false
set_option linter.unusedVariables false

end Go.Proofs.YtcegkagfpjdidaaGreatDoor
